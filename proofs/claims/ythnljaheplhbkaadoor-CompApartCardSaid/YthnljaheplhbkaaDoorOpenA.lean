/- An act, opened. -/
import Derived.Test.YthnljaheplhbkaaDoorOpenP
import Derived.Test.YthnljaheplhbkaaDoorOneA
namespace Go.Proofs.YthnljaheplhbkaaDoor
open Go Go.ChangeShapes Go.WideShapes Go.ChangeAt Go.RowKit Go.Lib Go.Shelf
set_option linter.unusedVariables false
set_option linter.unusedSimpArgs false

theorem cells_bytesA : Tryd.prog.cellsOf 44 = 1 := by kernel_rfl
theorem cells_toksA : Tryd.prog.cellsOf 22 = 1 := by kernel_rfl
theorem cells_intA : Tryd.prog.cellsOf 3 = 1 := by kernel_rfl
theorem cells_act : Tryd.prog.cellsOf 46 = 7 := by kernel_rfl

set_option maxRecDepth 100000 in
theorem open_act {H : Type} {enc : TypeId × Value → H} {W : World} {spare : Nat → Bool} {held : Bool} {v : Value} {d : DataW H} {p : List MemPlace} (h : DataW.Trod enc Tryd.prog W 0 spare held 46 v d p)
    (hv : ∃ cs, v = .agg cs ∧ cs.size = 7) (hsz : ∀ n ∈ d.weights Tryd.prog 46, n ≤ reachBytes) :
    ∃ (x : GAct) (P : Option Addr) (pc : Nat) (D : Option Addr) (dc : Nat), v = .agg #[.slice P x.path.length pc, .int .u8 x.kind, .int .i64 x.i, .int .i64 x.j, .int .i64 x.n, .string x.s, .slice D x.v.length dc] ∧ ActOk W x P pc D dc := by
  obtain ⟨fuel, hf⟩ := h
  obtain ⟨cs, rfl, hs7⟩ := hv
  obtain ⟨xs, n', _, hxx, hlen, hxl, hg⟩ := DataW.trod_struct Tryd.underlying46 hf
  obtain ⟨l⟩ := cs
  simp only [Value.cells] at hg hlen hxx
  match l, hs7 with
  | [c0, c1, c2, c3, c4, c5, c6], _ =>
    have g0 : DataW.trod enc Tryd.prog W 0 spare held n' 44 [c0] = xs[0]? := by simpa [cells_bytesA] using hg 0 { name := "Path", type := 44, offset := 0, embedded := false, tag := "", pkgPath := "", byteOffset := 0 } rfl
    have g1 : DataW.trod enc Tryd.prog W 0 spare held n' 5 [c1] = xs[1]? := by simpa [cells_byte] using hg 1 { name := "Kind", type := 5, offset := 1, embedded := false, tag := "", pkgPath := "", byteOffset := 24 } rfl
    have g2 : DataW.trod enc Tryd.prog W 0 spare held n' 3 [c2] = xs[2]? := by simpa [cells_intA] using hg 2 { name := "I", type := 3, offset := 2, embedded := false, tag := "", pkgPath := "", byteOffset := 32 } rfl
    have g3 : DataW.trod enc Tryd.prog W 0 spare held n' 3 [c3] = xs[3]? := by simpa [cells_intA] using hg 3 { name := "J", type := 3, offset := 3, embedded := false, tag := "", pkgPath := "", byteOffset := 40 } rfl
    have g4 : DataW.trod enc Tryd.prog W 0 spare held n' 2 [c4] = xs[4]? := by simpa [cells_int64] using hg 4 { name := "N", type := 2, offset := 4, embedded := false, tag := "", pkgPath := "", byteOffset := 48 } rfl
    have g5 : DataW.trod enc Tryd.prog W 0 spare held n' 9 [c5] = xs[5]? := by simpa [cells_string] using hg 5 { name := "S", type := 9, offset := 5, embedded := false, tag := "", pkgPath := "", byteOffset := 56 } rfl
    have g6 : DataW.trod enc Tryd.prog W 0 spare held n' 22 [c6] = xs[6]? := by simpa [cells_toksA] using hg 6 { name := "V", type := 22, offset := 6, embedded := false, tag := "", pkgPath := "", byteOffset := 72 } rfl
    match xs, hxl with
    | [y0, y1, y2, y3, y4, y5, y6], _ =>
      obtain ⟨k1, e1, f1, w1⟩ := DataW.trod_int Tryd.underlying5 g1
      obtain ⟨z2, e2, f2, w2⟩ := DataW.trod_int Tryd.underlying3 g2
      obtain ⟨z3, e3, f3, w3⟩ := DataW.trod_int Tryd.underlying3 g3
      obtain ⟨z4, e4, f4, w4⟩ := DataW.trod_int Tryd.underlying2 g4
      obtain ⟨s5, e5, f5, w5⟩ := DataW.trod_string Tryd.underlying9 g5
      simp only [List.cons.injEq, and_true] at e1 e2 e3 e4 e5
      subst e1 e2 e3 e4 e5
      simp only [Prod.mk.injEq] at hxx
      obtain ⟨hd, _⟩ := hxx
      simp only [List.map_cons, List.map_nil] at hd
      have slc : ∀ {t e : TypeId} {c : Value} {x : DataW H × List MemPlace}, Tryd.prog.underlying t = some (.slice e) → DataW.trod enc Tryd.prog W 0 spare held n' t [c] = some x → ∃ A n cp, c = .slice A n cp := fun hu hh => by
        rcases Go.Deep.open_slice hu hh with ⟨hc, _⟩ | ⟨a, len, cap, _, _, _, _, hcs, _⟩
        · simp only [List.cons.injEq, and_true] at hc; exact ⟨_, _, _, hc⟩
        · simp only [List.cons.injEq, and_true] at hcs; exact ⟨_, _, _, hcs⟩
      have hv0 := slc Tryd.underlying44 (x := y0) g0
      have hv6 := slc Tryd.underlying22 (x := y6) g6
      have hw6 : ∀ n ∈ y6.1.weights Tryd.prog 22, n ≤ reachBytes := fun n hn => hsz n (by
        rw [hd]
        simp [DataW.weights, Tryd.underlying46, DataW.weightsEach, hn])
      have hw5 : s5.data.toList.length ≤ reachBytes := hsz _ (by
        rw [hd, f5]
        simp [DataW.weights, Tryd.underlying46, DataW.weightsEach])
      obtain ⟨P, pc, bs, rfl, hb1, hb2, hB, hbr⟩ := open_choice (d := y0.1) (p := y0.2) (v := c0) ⟨n', by obtain ⟨A, n, c, rfl⟩ := hv0; simpa [Value.cells] using g0⟩ hv0
      obtain ⟨D, dc, ts, rfl, hl1, hl2, hT, hr, hss⟩ := open_toks (d := y6.1) (p := y6.2) (v := c6) ⟨n', by obtain ⟨A, n, c, rfl⟩ := hv6; simpa [Value.cells] using g6⟩ hv6 hw6
      have hk : 0 ≤ k1 ∧ k1 ≤ 255 := by simpa [Lit.wf, IntKind.min, IntKind.max, IntKind.signed, IntKind.bits] using w1
      exact ⟨⟨bs, k1, z2, z3, z4, s5, ts⟩, P, pc, D, dc, rfl, ⟨hB, hbr, ⟨hb1, hb2⟩, hk, hT, ⟨hl1, hl2⟩, hr, hss, by show s5.size ≤ 140737488351232; have : reachBytes = 140737488351232 := rfl; simp at hw5; omega⟩⟩
end Go.Proofs.YthnljaheplhbkaaDoor
