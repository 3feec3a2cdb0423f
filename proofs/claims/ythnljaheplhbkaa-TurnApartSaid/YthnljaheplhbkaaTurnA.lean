/- Turn of components: alone; where a path does not begin with the other. -/
import Derived.Test.YthnljaheplhbkaaCompC
namespace Go.Proofs.Ythnljaheplhbkaa
open Go Go.RowKit
set_option linter.unusedVariables false
set_option linter.unusedSimpArgs false

/-- A component of bounded size. -/
structure CBd (c : GC) : Prop where
  v : c.v.weight ≤ 1000000000
  p : c.path.length ≤ 1000000000
  k : c.key.size ≤ 281474976710656
  s : c.s.size ≤ 281474976710656
  pk : ∀ s ∈ c.path, s.key.size ≤ 281474976710656
/-- A list of one component, in new memory. -/
def AloneIs (c : GC) (w : World) (e : Ending) (w' : World) : Prop := ∃ (b : Nat) (A AL AO : Option Addr) (cp cL cO : Nat), e = .returned (.slice (some ⟨b, 0, none⟩) 1 1) ∧ w.heap.size ≤ b ∧ Whole w' b 35 #[.int .u8 c.kind, .slice A c.path.length cp, .string c.key, .int .i64 c.i, .int .i64 c.j, .int .i64 c.n, .int .u8 c.v.kind, .int .i64 c.v.num, .string c.v.str, .slice AL c.v.items.length cL, .slice AO c.v.vals.length cO, .string c.s] ∧ Cc w' c A AL AO cp cL cO ∧ Below w.heap.size w w'

set_option maxRecDepth 100000 in
set_option maxHeartbeats 4000000 in
theorem turn_alone (c : GC) (A AL AO : Option Addr) (cp cL cO : Nat) (w : World) (hc : Cc w c A AL AO cp cL cO) (hb : CBd c) : Calls Try.prog 19 #[.agg #[.int .u8 c.kind, .slice A c.path.length cp, .string c.key, .int .i64 c.i, .int .i64 c.j, .int .i64 c.n, .int .u8 c.v.kind, .int .i64 c.v.num, .string c.v.str, .slice AL c.v.items.length cL, .slice AO c.v.vals.length cO, .string c.s]] w (AloneIs c w) := by
  have HC := Lib.hid (fun W (h : Below w.heap.size w W) => comp_Copy c A AL AO cp cL cO W (hc.later h) hb.v hb.p hb.k hb.s hb.pk)
  unfold SameNew at HC
  clear hc hb
  go_enter Try.func19, Try.ntmps19
  go_wp2_with (go_at_call 31; refine (HC.out _ (below_alloc w _)).mono ?_; rintro e w1 ⟨B, BL, BO, bp, bL, bO, rfl, hcc, hb⟩; have H1 := Lib.hid (And.intro hcc ((below_alloc w (.cells #[.int .u8 c.kind, .slice A c.path.length cp, .string c.key, .int .i64 c.i, .int .i64 c.j, .int .i64 c.n, .int .u8 c.v.kind, .int .i64 c.v.num, .string c.v.str, .slice AL c.v.items.length cL, .slice AO c.v.vals.length cO, .string c.s] 35)).trans (hb.mono (by simp)))); clear hcc hb)
  go_ret
  exact ⟨w1.heap.size, B, BL, BO, bp, bL, bO, rfl, H1.out.2.size, Whole.new w1 _ _, H1.out.1.later (below_alloc _ _), H1.out.2.alloc H1.out.2.size _⟩

set_option maxRecDepth 100000 in
set_option maxHeartbeats 4000000 in
theorem turn_apart (a b : GC) (A AL AO B BL BO : Option Addr) (ap aL aO bp bL bO : Nat) (w : World) (ha : Cc w a A AL AO ap aL aO) (hb : Cc w b B BL BO bp bL bO) (hba : CBd a) (left : Bool) (hno : begins a.path b.path = false) : Calls Try.prog 9 #[.agg #[.int .u8 a.kind, .slice A a.path.length ap, .string a.key, .int .i64 a.i, .int .i64 a.j, .int .i64 a.n, .int .u8 a.v.kind, .int .i64 a.v.num, .string a.v.str, .slice AL a.v.items.length aL, .slice AO a.v.vals.length aO, .string a.s], .agg #[.int .u8 b.kind, .slice B b.path.length bp, .string b.key, .int .i64 b.i, .int .i64 b.j, .int .i64 b.n, .int .u8 b.v.kind, .int .i64 b.v.num, .string b.v.str, .slice BL b.v.items.length bL, .slice BO b.v.vals.length bO, .string b.s], .bool left] w (AloneIs a w) := by
  have HB := Lib.hid (fun W (h : Below w.heap.size w W) => (path_Begins W.heap.size A B ap bp a.path b.path W (ha.later h).path.steps (hb.later h).path.steps ha.path.le ha.path.cap (Nat.le_trans hb.path.le hb.path.cap)))
  rw [hno] at HB
  have HAL := Lib.hid (fun W (h : Below w.heap.size w W) => turn_alone a A AL AO ap aL aO W (ha.later h) hba)
  unfold AloneIs at HAL
  have H0 := Lib.hid (CTwo.new w #[.int .u8 a.kind, .slice A a.path.length ap, .string a.key, .int .i64 a.i, .int .i64 a.j, .int .i64 a.n, .int .u8 a.v.kind, .int .i64 a.v.num, .string a.v.str, .slice AL a.v.items.length aL, .slice AO a.v.vals.length aO, .string a.s] #[.int .u8 b.kind, .slice B b.path.length bp, .string b.key, .int .i64 b.i, .int .i64 b.j, .int .i64 b.n, .int .u8 b.v.kind, .int .i64 b.v.num, .string b.v.str, .slice BL b.v.items.length bL, .slice BO b.v.vals.length bO, .string b.s])
  clear ha hb hba hno
  go_enter Try.func9, Try.ntmps9
  go_wp2_with (first
    | (go_at_call 18; refine (HB.out _ H0.out.below).mono ?_; rintro e w1 ⟨rfl, hb⟩; have H1 := Lib.hid (H0.out.step hb); obtain ⟨c0, c1, c2, c3, c4, c5, c6, c7, c8, c9, c10, c11, _⟩ := H1.out.a.tw; clear hb)
    | (go_at_call 19; refine (HAL.out _ H1.out.below).mono ?_; rintro e w2 ⟨b', A', AL', AO', cp', cL', cO', rfl, h1, h2, h3, h4⟩; have H2 := Lib.hid (And.intro h1 (And.intro h2 (And.intro h3 h4))); clear h1 h2 h3 h4))
  go_ret
  exact ⟨b', A', AL', AO', cp', cL', cO', rfl, Nat.le_trans H1.out.below.size H2.out.1, H2.out.2.1, H2.out.2.2.1, H1.out.below.trans (H2.out.2.2.2.mono H1.out.below.size)⟩

end Go.Proofs.Ythnljaheplhbkaa
