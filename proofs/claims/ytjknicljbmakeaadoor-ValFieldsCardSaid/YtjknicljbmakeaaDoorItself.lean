/- soundItself: what is asked of a value apart from the values in it. -/
import Derived.Test.YtjknicljbmakeaaDoorSelf
namespace Go.Proofs.YtjknicljbmakeaaDoor
open Go Go.RowKit Go.Shelf

/-- A value is sound, apart from the values in it. -/
def SelfP (gk gn : Int) (gs : ByteArray) (gl : List GV) (gy : List ByteArray) (go : List GV) : Prop :=
  (gk = 0 ∨ gk = 1 ∨ gk = 2 ∨ gk = 3 ∨ gk = 4 ∨ gk = 5) ∧
  (gk = 2 ∨ gn = 0 ∨ gk = 1 ∧ gn = 1) ∧ (gk = 3 ∧ valid gs = true ∨ gk ≠ 3 ∧ gs.toList = []) ∧
  (gk = 4 ∨ gl = []) ∧ (gk = 5 ∧ KeysOk gy ∨ gk ≠ 5 ∧ go = [])
def SelfOk (g : GV) : Prop := SelfP g.kind g.num g.str g.items g.keys g.vals

set_option maxHeartbeats 4000000 in
theorem sound_itself (ok : Nat → Prop) (b off : Nat) (g : GV) (AL AO : Option Addr) (cL cO : Nat) (w : World) (h0 : w.cell? ⟨b, off, none⟩ = some (.int .u8 g.kind)) (h1 : w.cell? ⟨b, off + 1, none⟩ = some (.int .i64 g.num))
    (h2 : w.cell? ⟨b, off + 2, none⟩ = some (.string g.str)) (h3 : w.cell? ⟨b, off + 3, none⟩ = some (.slice AL g.items.length cL)) (h4 : w.cell? ⟨b, off + 4, none⟩ = some (.slice AO g.vals.length cO))
    (hO : ObjV ok w (.slice AO g.vals.length cO) g.keys g.vals) (hT : Tabs w) (hw : g.weight ≤ 1000000000) :
    Calls Tryd.prog 41 #[.pointer (some ⟨b, off, none⟩)] w (BoolPost (SelfOk g) w) := by
  have hsz : g.str.size ≤ 9223372036854775807 := by cases g with | mk k n s l ks ov => simp only [GV.weight, GV.str] at hw ⊢; omega
  have hks : ∀ k ∈ g.keys, k.size ≤ 9223372036854775807 := fun k hk => by
    cases g with | mk k' n s l ks ov =>
      simp only [GV.weight, GV.keys] at hw hk
      have : ∀ (l : List ByteArray), k ∈ l → k.size ≤ (l.map (·.size)).sum := fun l => by
        induction l with
        | nil => intro h; cases h
        | cons x r ih => intro h; rcases List.mem_cons.1 h with rfl | h <;> simp; have := ih h; omega
      have := this ks hk
      omega
  unfold SelfOk
  have hcs0 := fun (o : Obj) => cell_alloc o h0
  have hcs1 := fun (o : Obj) => cell_alloc o h1
  have hcs2 := fun (o : Obj) => cell_alloc o h2
  have hcs3 := fun (o : Obj) => cell_alloc o h3
  have hcs4 := fun (o : Obj) => cell_alloc o h4
  have hkw := fun (o : Obj) => (Below.refl w.heap.size w).alloc (Nat.le_refl _) o
  generalize hgk : g.kind = gk at *
  generalize hgn : g.num = gn at *
  generalize hgs : g.str = gs at *
  generalize hgl : g.items = gl at *
  generalize hgo : g.vals = go at *
  generalize hgy : g.keys = gy at *
  clear hgk hgn hgs hgl hgo hgy hw
  by_cases k0 : gk = 0
  · subst k0
    go_enter Tryd.func41, Tryd.ntmps41
    go_wp2
    all_goals
      go_ret
      refine ⟨_, rfl, ?_, ?_⟩
      · unfold SelfP
        simp_all
      · exact hkw _
  by_cases k2 : gk = 2
  · subst k2
    go_enter Tryd.func41, Tryd.ntmps41
    go_wp2
    all_goals
      go_ret
      refine ⟨_, rfl, ?_, ?_⟩
      · unfold SelfP
        simp_all
      · exact hkw _
  by_cases k4 : gk = 4
  · subst k4
    go_enter Tryd.func41, Tryd.ntmps41
    go_wp2
    all_goals
      go_ret
      refine ⟨_, rfl, ?_, ?_⟩
      · unfold SelfP
        simp_all
      · exact hkw _
  by_cases k1 : gk = 1
  · subst k1
    go_enter Tryd.func41, Tryd.ntmps41
    go_wp2
    all_goals
      go_ret
      refine ⟨_, rfl, ?_, ?_⟩
      · unfold SelfP
        simp_all
      · exact hkw _
  by_cases k3 : gk = 3
  · subst k3
    have hcall := fun (o : Obj) => call_valid gs (w.alloc o) hsz (hT.below (hkw o) (Nat.le_refl _))
    by_cases hv : valid gs = true
    all_goals
      simp only [hv] at hcall
      have HV := Lib.hid hv
      clear hv
      go_enter Tryd.func41, Tryd.ntmps41
      go_wp2_with (go_at_call 42; refine (hcall _).mono ?_; rintro e W1 ⟨rfl, hb1⟩; have hx := ((Whole.new w 28 #[.int .u8 3, .int .i64 gn, .string gs, .slice AL gl.length cL, .slice AO go.length cO]).below hb1 (by simp)).five; have hx0 := hx.c0; have hx1 := hx.c1; have hx2 := hx.c2; have hx3 := hx.c3; have hx4 := hx.c4; have hy2 := hx.f2; have hy4 := hx.f4; have hbw := ((Below.refl w.heap.size w).alloc (Nat.le_refl _) (.cells #[.int .u8 3, .int .i64 gn, .string gs, .slice AL gl.length cL, .slice AO go.length cO] 28)).trans (hb1.mono (by simp)); clear hx)
      all_goals
        go_ret
        refine ⟨_, rfl, ?_, hbw.setCell (Nat.le_refl _) _⟩
        have hv := HV.out
        unfold SelfP
        simp_all
  by_cases k5 : gk = 5
  · subst k5
    have hcall := fun (o : Obj) => sound_keys ok (.slice AO go.length cO) gy go (w.alloc o) (hO.keep (From.of_below (hkw o)) (fun _ h _ => h)) (hT.below (hkw o) (Nat.le_refl _)) hks
    go_enter Tryd.func41, Tryd.ntmps41
    go_wp2_with (go_at_call 57; refine (hcall _).mono ?_; rintro e W1 ⟨bb, rfl, hbb, hb1⟩; have HBB := Lib.hid hbb; clear hbb; have hx := ((Whole.new w 28 #[.int .u8 5, .int .i64 gn, .string gs, .slice AL gl.length cL, .slice AO go.length cO]).below hb1 (by simp)).five; have hx0 := hx.c0; have hx1 := hx.c1; have hx2 := hx.c2; have hx3 := hx.c3; have hx4 := hx.c4; have hy2 := hx.f2; have hy4 := hx.f4; have hbw := ((Below.refl w.heap.size w).alloc (Nat.le_refl _) (.cells #[.int .u8 5, .int .i64 gn, .string gs, .slice AL gl.length cL, .slice AO go.length cO] 28)).trans (hb1.mono (by simp)); clear hx)
    all_goals
      go_ret
      refine ⟨_, rfl, ?_, hbw.setCell (Nat.le_refl _) _⟩
      have hv := HBB.out
      unfold SelfP
      simp_all
  have q0 : (gk == 0) = false := by simpa using k0
  have q1 : (gk == 1) = false := by simpa using k1
  have q2 : (gk == 2) = false := by simpa using k2
  have q3 : (gk == 3) = false := by simpa using k3
  have q4 : (gk == 4) = false := by simpa using k4
  have q5 : (gk == 5) = false := by simpa using k5
  have HK := Lib.hid (And.intro k0 (And.intro k1 (And.intro k2 (And.intro k3 (And.intro k4 k5)))))
  clear k0 k1 k2 k3 k4 k5
  go_enter Tryd.func41, Tryd.ntmps41
  go_wp2
  all_goals
    go_ret
    refine ⟨_, rfl, ?_, hkw _⟩
    have hv := HK.out
    unfold SelfP
    simp_all
end Go.Proofs.YtjknicljbmakeaaDoor
