/- sameItself: two values, apart from the values in them. -/
import Derived.Test.YtjknicljbmakeaaDoorEqual
import Derived.Deep.QuietTactic
import Derived.BigQuiet
import Derived.Lib.QuietBelow
namespace Go.Proofs.YtjknicljbmakeaaDoor
open Go Go.RowKit

theorem below_dn {B : Nat} {a w : World} (h : Below B a w) (n : Nat) : Below B a (w.drewN n) := ⟨h.os, h.tape, h.output, h.size, h.block⟩
def SameSelf (g h : GV) : Prop := g.kind = h.kind ∧ g.num = h.num ∧ g.str.toList = h.str.toList ∧ g.items.length = h.items.length ∧ letters g.keys = letters h.keys

/-- A value's five cells, its lists' values written out. -/
structure ValAt (W : World) (b off : Nat) (g : GV) (AL AO : Option Addr) (cL cO : Nat) : Prop where
  c0 : W.cell? ⟨b, off, none⟩ = some (.int .u8 g.kind)
  c1 : W.cell? ⟨b, off + 1, none⟩ = some (.int .i64 g.num)
  c2 : W.cell? ⟨b, off + 2, none⟩ = some (.string g.str)
  c3 : W.cell? ⟨b, off + 3, none⟩ = some (.slice AL g.items.length cL)
  c4 : W.cell? ⟨b, off + 4, none⟩ = some (.slice AO g.vals.length cO)

set_option maxRecDepth 100000 in
set_option maxHeartbeats 8000000 in
theorem same_itself (ok : Nat → Prop) (b off b' off' : Nat) (g h : GV) (AL AO AL' AO' : Option Addr) (cL cO cL' cO' : Nat) (w : World) (hg : ValAt w b off g AL AO cL cO) (hh : ValAt w b' off' h AL' AO' cL' cO')
    (hO : ObjV ok w (.slice AO g.vals.length cO) g.keys g.vals) (hO' : ObjV ok w (.slice AO' h.vals.length cO') h.keys h.vals) :
    Calls Tryd.prog 44 #[.pointer (some ⟨b, off, none⟩), .pointer (some ⟨b', off', none⟩)] w (EqPost (SameSelf g h) w) := by
  obtain ⟨a0, a1, a2, a3, a4⟩ := hg
  obtain ⟨e0, e1, e2, e3, e4⟩ := hh
  have hP : ∀ {P : Prop}, P ↔ P := Iff.rfl
  clear hP
  have HSS : Hid (SameSelf g h ↔ g.kind = h.kind ∧ g.num = h.num ∧ g.str.toList = h.str.toList ∧ g.items.length = h.items.length ∧ letters g.keys = letters h.keys) := Iff.rfl
  generalize SameSelf g h = SS at *
  have hcall := fun (d : Nat) (os : Array Obj) => equal_func ok (.slice AO g.vals.length cO) (.slice AO' h.vals.length cO') g.keys h.keys g.vals h.vals (Go.Sort.grow (redrawn w d) os) (hO.keep (From.of_below (below_regrown w d os)) (fun _ h _ => h)) (hO'.keep (From.of_below (below_regrown w d os)) (fun _ h _ => h))
  generalize g.kind = gk at *
  generalize h.kind = hk at *
  generalize g.num = gn at *
  generalize h.num = hn at *
  generalize g.str = gs at *
  generalize h.str = hs at *
  generalize g.keys = gy at *
  generalize h.keys = hy at *
  generalize g.items.length = gl at *
  generalize h.items.length = hl at *
  generalize hgo : g.vals.length = go at *
  generalize hho : h.vals.length = ho at *
  have HC := Lib.hid hcall
  clear hcall hO hO' hgo hho
  by_cases q0 : gk = hk
  · subst q0
    by_cases q1 : gn = hn
    · subst q1
      by_cases q2 : gs.toList = hs.toList
      · have z2 : (gs.toList == hs.toList) = true := by simp [q2]
        have Q2 := Lib.hid q2
        clear q2
        by_cases q3 : gl = hl
        · subst q3
          have z3 : ((gl : Int) == (gl : Int)) = true := by simp
          have k0 := fun (d : Nat) (os : Array Obj) => cell_regrown a0 d os
          have k1 := fun (d : Nat) (os : Array Obj) => cell_regrown a1 d os
          have k2 := fun (d : Nat) (os : Array Obj) => cell_regrown a2 d os
          have k3 := fun (d : Nat) (os : Array Obj) => cell_regrown a3 d os
          have k4 := fun (d : Nat) (os : Array Obj) => cell_regrown a4 d os
          have l0 := fun (d : Nat) (os : Array Obj) => cell_regrown e0 d os
          have l1 := fun (d : Nat) (os : Array Obj) => cell_regrown e1 d os
          have l2 := fun (d : Nat) (os : Array Obj) => cell_regrown e2 d os
          have l3 := fun (d : Nat) (os : Array Obj) => cell_regrown e3 d os
          have l4 := fun (d : Nat) (os : Array Obj) => cell_regrown e4 d os
          have hq : ∃ bb : Bool, (bb = true ↔ letters gy = letters hy) := ⟨decide (letters gy = letters hy), by simp⟩
          obtain ⟨bb, hbb⟩ := hq
          have hcall2 : ∀ d os, Calls Tryd.prog 60 #[.slice AO go cO, .slice AO' ho cO', .func (.func 61) #[] #[]] (Go.Sort.grow (redrawn w d) os) fun e w'' => e = .returned (.bool bb) ∧ ∃ p : Regrown, w'' = Go.Sort.grow (redrawn w p.d) p.os := fun d os =>
            Calls.regrown_of ((HC.out d os).mono fun e w'' h => by
              obtain ⟨b2, rfl, hb2, hbel⟩ := h
              have : b2 = bb := by
                rw [Bool.eq_iff_iff, hb2, hbb]
              subst this
              exact ⟨rfl, hbel⟩)
          have HBB := Lib.hid hbb
          clear hbb
          go_enter Tryd.func44, Tryd.ntmps44
          go_wp2
          refine wp_region_quiet_below (by kernel_rfl) (by kernel_rfl) ?_
          repeat (quiet_step (exact hcall2 _ _))
          refine wpQuiet_nil ?_
          intro _ hw'
          obtain ⟨⟨dq, osq⟩, hw''⟩ := hw'
          subst hw''
          go_wp2
          go_ret
          exact ⟨bb, rfl, by rw [HBB.out, HSS.out]; simp [Q2.out], below_regrown w dq osq⟩
        · have z3 : ((gl : Int) == (hl : Int)) = false := by simp; omega
          have z3' : (gl == hl) = false := by simpa using q3
          have Q3 := Lib.hid q3
          clear q3
          go_enter Tryd.func44, Tryd.ntmps44
          go_wp2
          go_quiet (fail)
          go_wp2
          go_ret
          exact ⟨false, rfl, ⟨(fun h => by cases h), fun h => absurd (HSS.out.1 h).2.2.2.1 Q3.out⟩, below_dn (Below.refl _ _) _⟩
      · have z2 : (gs.toList == hs.toList) = false := by simpa using q2
        have Q2 := Lib.hid q2
        clear q2
        go_enter Tryd.func44, Tryd.ntmps44
        go_wp2
        go_quiet (fail)
        go_wp2
        go_ret
        exact ⟨false, rfl, ⟨(fun h => by cases h), fun h => absurd (HSS.out.1 h).2.2.1 Q2.out⟩, below_dn (Below.refl _ _) _⟩
    · have z1 : (gn == hn) = false := by simpa using q1
      have Q1 := Lib.hid q1
      clear q1
      go_enter Tryd.func44, Tryd.ntmps44
      go_wp2
      go_quiet (fail)
      go_wp2
      go_ret
      exact ⟨false, rfl, ⟨(fun h => by cases h), fun h => absurd (HSS.out.1 h).2.1 Q1.out⟩, below_dn (Below.refl _ _) _⟩
  · have z0 : (gk == hk) = false := by simpa using q0
    have Q0 := Lib.hid q0
    clear q0
    go_enter Tryd.func44, Tryd.ntmps44
    go_wp2
    go_quiet (fail)
    go_wp2
    go_ret
    exact ⟨false, rfl, ⟨(fun h => by cases h), fun h => absurd (HSS.out.1 h).1 Q0.out⟩, below_dn (Below.refl _ _) _⟩
end Go.Proofs.YtjknicljbmakeaaDoor
