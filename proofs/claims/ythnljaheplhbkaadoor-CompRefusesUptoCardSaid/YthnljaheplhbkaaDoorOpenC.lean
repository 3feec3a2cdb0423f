/- A component as it is, opened; how much it holds. -/
import Derived.Test.YthnljaheplhbkaaDoorOpenP
import Derived.Test.YthnljaheplhbkaaDoorHeavyX
namespace Go.Proofs.YthnljaheplhbkaaDoor
open Go Go.ChangeShapes Go.WideShapes Go.ChangeAt Go.RowKit Go.Lib Go.Shelf
set_option linter.unusedVariables false
set_option linter.unusedSimpArgs false

def tokD {H : Type} (t : GTok) : DataW H := .agg [.lit (.int .u8 t.k), .lit (.int .i64 t.n), .lit (.string t.s.data.toList), .lit (.int .u8 t.m)]
theorem bulk_toks {H : Type} : ∀ (ts : List GTok), tot ts + 4 * ts.length ≤ Rows.uptoBulkAll (ts.map (tokD (H := H)))
  | [] => by simp [tot]
  | t :: r => by
    have h := bulk_toks (H := H) r
    simp only [List.map_cons, Rows.uptoBulkAll, tokD, Rows.uptoBulk, tot, List.length_cons]
    have e : t.s.data.toList.length = t.s.size := by simp
    rw [e]
    omega

set_option maxRecDepth 100000 in
theorem open_toksU {H : Type} {enc : TypeId × Value → H} {W : World} {spare : Nat → Bool} {held : Bool} {v : Value} {d : DataW H} {p : List MemPlace} {fuel : Nat} (hf : DataW.trod enc Tryd.prog W 0 spare held fuel 22 [v] = some (d, p)) :
    ∃ (A : Option Addr) (cap : Nat) (ts : List GTok), v = .slice A ts.length cap ∧ ts.length ≤ cap ∧ cap ≤ maxLen ∧ Toks W.heap.size W A ts ∧ (∀ t ∈ ts, 0 ≤ t.k ∧ t.k ≤ 255 ∧ 0 ≤ t.m ∧ t.m ≤ 255) ∧ tot ts + 4 * ts.length ≤ Rows.uptoBulk d := by
  rcases Go.Deep.open_slice Tryd.underlying22 hf with ⟨hc, _⟩ | ⟨a, n0, c0, m, n, D, Pl, hcs, _, hlc, hcm, hm, hx, hi⟩
  · simp only [List.cons.injEq, and_true] at hc
    subst hc
    exact ⟨none, 0, [], rfl, Nat.le_refl _, by decide, fun h => absurd rfl h, fun t ht => by simp at ht, by simp [tot]⟩
  simp only [List.cons.injEq, and_true] at hcs
  subst hcs
  simp only [Prod.mk.injEq] at hx
  have hlm : n0 ≤ m := by rw [hm]; split <;> omega
  obtain ⟨ts, hts, hq⟩ := list_of (Q := fun i (t : GTok) => (W.cell? ⟨a.block, a.off + i * 4, none⟩ = some (.int .u8 t.k) ∧ W.cell? ⟨a.block, a.off + i * 4 + 1, none⟩ = some (.int .i64 t.n) ∧
      W.cell? ⟨a.block, a.off + i * 4 + 2, none⟩ = some (.string t.s) ∧ W.cell? ⟨a.block, a.off + i * 4 + 3, none⟩ = some (.int .u8 t.m)) ∧ (i = 0 → a.spot = none) ∧ a.block < W.heap.size ∧ (0 ≤ t.k ∧ t.k ≤ 255 ∧ 0 ≤ t.m ∧ t.m ≤ 255) ∧ D i = tokD t) n0 (fun i hin => by
    obtain ⟨cs', hcl, ht'⟩ := hi i (by omega)
    rw [cells_tok] at hcl
    obtain ⟨xs, n', _, hxx, hlen, hxl, hg⟩ := DataW.trod_struct Tryd.underlying67 ht'
    rw [cells_tok] at hlen
    obtain ⟨_, _, hat⟩ := World.cells?_some hcl
    match cs', hlen with
    | [c0, c1, c2, c3], _ =>
      have g0 : DataW.trod enc Tryd.prog W 0 spare held n' 5 [c0] = xs[0]? := by simpa [cells_byte] using hg 0 { name := "Kind", type := 5, offset := 0, embedded := false, tag := "", pkgPath := "", byteOffset := 0 } rfl
      have g1 : DataW.trod enc Tryd.prog W 0 spare held n' 2 [c1] = xs[1]? := by simpa [cells_int64] using hg 1 { name := "N", type := 2, offset := 1, embedded := false, tag := "", pkgPath := "", byteOffset := 8 } rfl
      have g2 : DataW.trod enc Tryd.prog W 0 spare held n' 9 [c2] = xs[2]? := by simpa [cells_string] using hg 2 { name := "S", type := 9, offset := 2, embedded := false, tag := "", pkgPath := "", byteOffset := 16 } rfl
      have g3 : DataW.trod enc Tryd.prog W 0 spare held n' 5 [c3] = xs[3]? := by simpa [cells_byte] using hg 3 { name := "Many", type := 5, offset := 3, embedded := false, tag := "", pkgPath := "", byteOffset := 32 } rfl
      match xs, hxl with
      | [y0, y1, y2, y3], _ =>
        obtain ⟨k, e0, f0, w0⟩ := DataW.trod_int Tryd.underlying5 g0
        obtain ⟨z, e1, f1, w1⟩ := DataW.trod_int Tryd.underlying2 g1
        obtain ⟨s, e2, f2, w2⟩ := DataW.trod_string Tryd.underlying9 g2
        obtain ⟨m', e3, f3, w3⟩ := DataW.trod_int Tryd.underlying5 g3
        simp only [List.cons.injEq, and_true] at e0 e1 e2 e3
        subst e0 e1 e2 e3
        have q0 : W.cell? ((a.add (i * 4)).add 0) = some (.int .u8 k) := hat 0 (by omega)
        have q1 : W.cell? ((a.add (i * 4)).add 1) = some (.int .i64 z) := hat 1 (by omega)
        have q2 : W.cell? ((a.add (i * 4)).add 2) = some (.string s) := hat 2 (by omega)
        have q3 : W.cell? ((a.add (i * 4)).add 3) = some (.int .u8 m') := hat 3 (by omega)
        have hsp : i = 0 → a.spot = none := fun e => by subst e; simpa [Addr.add] using spot_none q0
        have hab : a.block < W.heap.size := by
          have := World.block_lt_of_cell? W _ q0
          rwa [add_block, add_block] at this
        have hd : ∀ j, (a.add (i * 4)).add j = ⟨a.block, a.off + i * 4 + j, none⟩ := fun j => add_add a i j hsp
        rw [hd] at q0 q1 q2 q3
        have a1 : -9223372036854775808 ≤ z ∧ z ≤ 9223372036854775807 := by simpa [Lit.wf, IntKind.min, IntKind.max, IntKind.signed, IntKind.bits] using w1
        refine ⟨⟨k, z, s, m', a1⟩, ⟨q0, q1, q2, q3⟩, hsp, hab, ?_, ?_⟩
        · have a0 : 0 ≤ k ∧ k ≤ 255 := by simpa [Lit.wf, IntKind.min, IntKind.max, IntKind.signed, IntKind.bits] using w0
          have a3 : 0 ≤ m' ∧ m' ≤ 255 := by simpa [Lit.wf, IntKind.min, IntKind.max, IntKind.signed, IntKind.bits] using w3
          exact ⟨a0.1, a0.2, a3.1, a3.2⟩
        · simp only [Prod.mk.injEq] at hxx
          rw [hxx.1]
          simp [f0, f1, f2, f3, tokD])
  refine ⟨some a, c0, ts, by rw [hts], by omega, hcm, fun _ => ⟨a, rfl, ?_⟩, fun t ht => ?_, ?_⟩
  · have h0 : 0 < ts.length := by
      cases ts with
      | nil => rename_i hne; exact absurd rfl hne
      | cons _ _ => simp
    have := hq 0 _ (List.getElem?_eq_getElem h0)
    exact ⟨this.2.1 rfl, this.2.2.1, fun i t hi => (hq i t hi).1⟩
  · obtain ⟨i, hi⟩ := List.getElem?_of_mem ht
    exact (hq i t hi).2.2.2.1
  · rw [hx.1]
    have e : (List.range n0).map D = ts.map tokD := List.ext_getElem? fun i => by
      by_cases hi : i < n0
      · have hi2 : i < ts.length := by omega
        have h1 := (hq i ts[i] (List.getElem?_eq_getElem hi2)).2.2.2.2
        simp [hi, hi2, h1]
      · have hi2 : ¬ i < ts.length := by omega
        simp [hi, hi2]
    rw [e]
    have h1 := bulk_toks (H := H) ts
    simp only [Rows.uptoBulk]
    omega


theorem cells_steps1 : Tryd.prog.cellsOf 23 = 1 := by kernel_rfl
theorem cells_toks1 : Tryd.prog.cellsOf 22 = 1 := by kernel_rfl
theorem cells_bare : Tryd.prog.cellsOf 25 = 8 := by kernel_rfl

set_option maxRecDepth 100000 in
theorem open_bare {H : Type} {enc : TypeId × Value → H} {W : World} {spare : Nat → Bool} {held : Bool} {v : Value} {d : DataW H} {p : List MemPlace} (h : DataW.Trod enc Tryd.prog W 0 spare held 25 v d p)
    (hv : ∃ cs, v = .agg cs ∧ cs.size = 8) (hsz : ∀ n ∈ d.weights Tryd.prog 25, n ≤ reachBytes) :
    ∃ (x : GB) (B : Option Addr) (bap : Nat) (D : Option Addr) (dap : Nat), v = .agg #[.int .u8 x.kind, .slice B x.path.length bap, .string x.key, .int .i64 x.i, .int .i64 x.j, .int .i64 x.n, .string x.s, .slice D x.v.length dap] ∧
      (x.path.length ≤ bap ∧ bap ≤ maxLen ∧ Steps W.heap.size W B x.path ∧ ∀ t ∈ x.path, t.key.size ≤ 140737488351232) ∧ (x.v.length ≤ dap ∧ dap ≤ maxLen ∧ Toks W.heap.size W D x.v ∧ ∀ t ∈ x.v, 0 ≤ t.k ∧ t.k ≤ 255 ∧ 0 ≤ t.m ∧ t.m ≤ 255) ∧
      x.key.size + x.s.size + tot x.v + 4 * x.v.length ≤ Rows.uptoBulk d := by
  obtain ⟨fuel, hf⟩ := h
  obtain ⟨cs, rfl, hs8⟩ := hv
  obtain ⟨xs, n', _, hxx, hlen, hxl, hg⟩ := DataW.trod_struct Tryd.underlying25 hf
  obtain ⟨l⟩ := cs
  simp only [Value.cells] at hg hlen hxx
  match l, hs8 with
  | [c0, c1, c2, c3, c4, c5, c6, c7], _ =>
    have g0 : DataW.trod enc Tryd.prog W 0 spare held n' 5 [c0] = xs[0]? := by simpa [cells_byte] using hg 0 { name := "Kind", type := 5, offset := 0, embedded := false, tag := "", pkgPath := "", byteOffset := 0 } rfl
    have g1 : DataW.trod enc Tryd.prog W 0 spare held n' 23 [c1] = xs[1]? := by simpa [cells_steps1] using hg 1 { name := "Path", type := 23, offset := 1, embedded := false, tag := "", pkgPath := "", byteOffset := 8 } rfl
    have g2 : DataW.trod enc Tryd.prog W 0 spare held n' 9 [c2] = xs[2]? := by simpa [cells_string] using hg 2 { name := "Key", type := 9, offset := 2, embedded := false, tag := "", pkgPath := "", byteOffset := 32 } rfl
    have g3 : DataW.trod enc Tryd.prog W 0 spare held n' 3 [c3] = xs[3]? := by simpa [cells_int] using hg 3 { name := "I", type := 3, offset := 3, embedded := false, tag := "", pkgPath := "", byteOffset := 48 } rfl
    have g4 : DataW.trod enc Tryd.prog W 0 spare held n' 3 [c4] = xs[4]? := by simpa [cells_int] using hg 4 { name := "J", type := 3, offset := 4, embedded := false, tag := "", pkgPath := "", byteOffset := 56 } rfl
    have g5 : DataW.trod enc Tryd.prog W 0 spare held n' 2 [c5] = xs[5]? := by simpa [cells_int64] using hg 5 { name := "N", type := 2, offset := 5, embedded := false, tag := "", pkgPath := "", byteOffset := 64 } rfl
    have g6 : DataW.trod enc Tryd.prog W 0 spare held n' 9 [c6] = xs[6]? := by simpa [cells_string] using hg 6 { name := "S", type := 9, offset := 6, embedded := false, tag := "", pkgPath := "", byteOffset := 72 } rfl
    have g7 : DataW.trod enc Tryd.prog W 0 spare held n' 22 [c7] = xs[7]? := by simpa [cells_toks1] using hg 7 { name := "V", type := 22, offset := 7, embedded := false, tag := "", pkgPath := "", byteOffset := 88 } rfl
    match xs, hxl with
    | [y0, y1, y2, y3, y4, y5, y6, y7], _ =>
      obtain ⟨k, e0, f0, w0⟩ := DataW.trod_int Tryd.underlying5 g0
      obtain ⟨s2, e2, f2, w2⟩ := DataW.trod_string Tryd.underlying9 g2
      obtain ⟨z3, e3, f3, w3⟩ := DataW.trod_int Tryd.underlying3 g3
      obtain ⟨z4, e4, f4, w4⟩ := DataW.trod_int Tryd.underlying3 g4
      obtain ⟨z5, e5, f5, w5⟩ := DataW.trod_int Tryd.underlying2 g5
      obtain ⟨s6, e6, f6, w6⟩ := DataW.trod_string Tryd.underlying9 g6
      simp only [List.cons.injEq, and_true] at e0 e2 e3 e4 e5 e6
      subst e0 e2 e3 e4 e5 e6
      simp only [Prod.mk.injEq] at hxx
      obtain ⟨hd, _⟩ := hxx
      simp only [List.map_cons, List.map_nil] at hd
      obtain ⟨D, dap, ts, rfl, hl1, hl2, hT, hr, hbk⟩ := open_toksU (d := y7.1) (p := y7.2) g7
      have hv1 : ∃ A n c, c1 = .slice A n c := by
        rcases Go.Deep.open_slice Tryd.underlying23 (x := y1) g1 with ⟨hc, _⟩ | ⟨a, len, cap, _, _, _, _, hcs, _⟩
        · simp only [List.cons.injEq, and_true] at hc; exact ⟨_, _, _, hc⟩
        · simp only [List.cons.injEq, and_true] at hcs; exact ⟨_, _, _, hcs⟩
      have hw1 : ∀ n ∈ y1.1.weights Tryd.prog 23, n ≤ reachBytes := fun n hn => hsz n (by
        rw [hd]
        simp [DataW.weights, Tryd.underlying25, DataW.weightsEach, hn])
      obtain ⟨B, bap, ps, hps, hp1, hp2, hS, hkk⟩ := open_steps (d := y1.1) (p := y1.2) (v := c1) ⟨n', by obtain ⟨A, n, c, rfl⟩ := hv1; simpa [Value.cells] using g1⟩ hv1 hw1
      subst hps
      refine ⟨⟨k, ps, s2, z3, z4, z5, s6, ts⟩, B, bap, D, dap, rfl, ⟨hp1, hp2, hS, hkk⟩, ⟨hl1, hl2, hT, hr⟩, ?_⟩
      rw [hd]
      simp only [Rows.uptoBulk, Rows.uptoBulkAll, f2, f6]
      have e2 : s2.data.toList.length = s2.size := by simp
      have e6 : s6.data.toList.length = s6.size := by simp
      rw [e2, e6]
      omega
end Go.Proofs.YthnljaheplhbkaaDoor
