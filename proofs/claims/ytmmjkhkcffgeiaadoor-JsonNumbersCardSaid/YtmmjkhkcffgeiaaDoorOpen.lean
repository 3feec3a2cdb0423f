/- The arguments that the statements take, opened: a slice of pieces; the two tables that the row lists. -/
import Derived.Test.YtmmjkhkcffgeiaaDoorBaseA
import Derived.Test.YtmmjkhkcffgeiaaDoorRows
import Derived.ProofKit
import Derived.Deep.Slices
import Derived.SizedLaws
import Derived.Lib.LaidU8T
import Derived.OpenShut
import Derived.Lay
namespace Go.Proofs.YtmmjkhkcffgeiaaDoor
open Go Go.ChangeShapes Go.WideShapes Go.ChangeAt Go.RowKit Go.Lib Go.Shelf

theorem list_of {α : Type} {Q : Nat → α → Prop} : ∀ n, (∀ i, i < n → ∃ x, Q i x) → ∃ l : List α, l.length = n ∧ ∀ i x, l[i]? = some x → Q i x
  | 0, _ => ⟨[], rfl, fun i x h => by simp at h⟩
  | n + 1, h => by
    obtain ⟨l, hl, hq⟩ := list_of n (fun i hi => h i (by omega))
    obtain ⟨x, hx⟩ := h n (by omega)
    refine ⟨l ++ [x], by simp [hl], fun i y hy => ?_⟩
    by_cases e : i < l.length
    · rw [List.getElem?_append_left e] at hy; exact hq i y hy
    · rw [List.getElem?_append_right (by omega)] at hy
      have : i = n := by
        have := (List.getElem?_eq_some_iff.1 hy).1
        simp at this; omega
      subst this
      rw [hl] at hy
      simp at hy
      subst hy
      exact hx

theorem weightsAll_mem {H : Type} {P : Program} {e : TypeId} : ∀ {l : List (DataW H)} {d : DataW H}, d ∈ l → ∀ n ∈ d.weights P e, n ∈ DataW.weightsAll P e l
  | [], d, h, _, _ => by simp at h
  | x :: r, d, h, n, hn => by
    simp only [DataW.weightsAll, List.mem_append]
    rcases List.mem_cons.1 h with rfl | h
    · exact .inl hn
    · exact .inr (weightsAll_mem h n hn)

/-- What is to be known of a slice of pieces. -/
def Pieces (W : World) (A : Option Addr) (ts : List GTok) : Prop :=
  Toks W.heap.size W A ts ∧ (∀ t ∈ ts, 0 ≤ t.k ∧ t.k ≤ 255 ∧ 0 ≤ t.m ∧ t.m ≤ 255) ∧ ∀ t ∈ ts, t.s.size ≤ 140737488351232

theorem spot_none {W : World} {a : Addr} {v : Value} (h : W.cell? a = some v) : a.spot = none := by
  cases hs : a.spot with
  | none => rfl
  | some z =>
    unfold World.cell? at h
    cases ho : W.heap[a.block]? with
    | none => simp [ho] at h
    | some o => cases o <;> simp [ho, hs] at h
theorem add_block (a : Addr) (k : Nat) : (a.add k).block = a.block := by unfold Addr.add; split <;> rfl
theorem add_add (a : Addr) (i j : Nat) (h : i = 0 → a.spot = none) : (a.add (i * 4)).add j = ⟨a.block, a.off + i * 4 + j, none⟩ := by
  obtain ⟨b, o, sp⟩ := a
  by_cases e : i = 0
  · have := h e
    simp only at this
    subst e this
    by_cases e' : j = 0 <;> simp [Addr.add, e']
  · have e4 : ¬ i * 4 = 0 := by omega
    by_cases e' : j = 0
    · subst e'; simp only [Addr.add, if_neg e4, if_true, Nat.add_zero]
    · simp only [Addr.add, if_neg e4, if_neg e']
theorem cells_tok : Tryd.prog.cellsOf 58 = 4 := by kernel_rfl
theorem cells_byte : Tryd.prog.cellsOf 5 = 1 := by kernel_rfl
theorem cells_int64 : Tryd.prog.cellsOf 2 = 1 := by kernel_rfl
theorem cells_string : Tryd.prog.cellsOf 9 = 1 := by kernel_rfl

set_option maxRecDepth 100000 in
theorem open_toks {H : Type} {enc : TypeId × Value → H} {W : World} {spare : Nat → Bool} {held : Bool} {v : Value} {d : DataW H} {p : List MemPlace} (h : DataW.Trod enc Tryd.prog W 0 spare held 35 v d p)
    (hv : ∃ A n c, v = .slice A n c) (hsz : ∀ n ∈ d.weights Tryd.prog 35, n ≤ reachBytes) :
    ∃ (A : Option Addr) (cap : Nat) (ts : List GTok), v = .slice A ts.length cap ∧ ts.length ≤ cap ∧ cap ≤ maxLen ∧ Pieces W A ts := by
  obtain ⟨fuel, hf⟩ := h
  obtain ⟨A0, n0, c0, rfl⟩ := hv
  rcases Go.Deep.open_slice Tryd.underlying35 hf with ⟨hc, _⟩ | ⟨a, len, cap, m, n, D, Pl, hcs, _, hlc, hcm, hm, hx, hi⟩
  · simp only [Value.cells, List.cons.injEq, and_true] at hc
    simp only [Value.slice.injEq] at hc
    obtain ⟨rfl, rfl, rfl⟩ := hc
    exact ⟨none, 0, [], rfl, Nat.le_refl _, by decide, fun h => absurd rfl h, fun t ht => by simp at ht, fun t ht => by simp at ht⟩
  simp only [Value.cells, List.cons.injEq, and_true] at hcs
  simp only [Value.slice.injEq] at hcs
  obtain ⟨rfl, rfl, rfl⟩ := hcs
  simp only [Prod.mk.injEq] at hx
  have hlm : n0 ≤ m := by rw [hm]; split <;> omega
  obtain ⟨ts, hts, hq⟩ := list_of (Q := fun i (t : GTok) => (W.cell? ⟨a.block, a.off + i * 4, none⟩ = some (.int .u8 t.k) ∧ W.cell? ⟨a.block, a.off + i * 4 + 1, none⟩ = some (.int .i64 t.n) ∧
      W.cell? ⟨a.block, a.off + i * 4 + 2, none⟩ = some (.string t.s) ∧ W.cell? ⟨a.block, a.off + i * 4 + 3, none⟩ = some (.int .u8 t.m)) ∧ (i = 0 → a.spot = none) ∧ a.block < W.heap.size ∧ (0 ≤ t.k ∧ t.k ≤ 255 ∧ 0 ≤ t.m ∧ t.m ≤ 255) ∧ t.s.size ≤ reachBytes) n0 (fun i hin => by
    obtain ⟨cs', hcl, ht'⟩ := hi i (by omega)
    rw [cells_tok] at hcl
    obtain ⟨xs, n', _, hxx, hlen, hxl, hg⟩ := DataW.trod_struct Tryd.underlying58 ht'
    rw [cells_tok] at hlen
    obtain ⟨_, _, hat⟩ := World.cells?_some hcl
    match cs', hlen with
    | [c0, c1, c2, c3], _ =>
      have g0 : DataW.trod enc Tryd.prog W 0 spare held n' 5 [c0] = xs[0]? := by simpa [cells_byte] using hg 0 { name := "Kind", type := 5, offset := 0, embedded := false, tag := "", pkgPath := "", byteOffset := 0 } rfl
      have g1 : DataW.trod enc Tryd.prog W 0 spare held n' 2 [c1] = xs[1]? := by simpa [cells_int64] using hg 1 { name := "N", type := 2, offset := 1, embedded := false, tag := "", pkgPath := "", byteOffset := 8 } rfl
      have g2 : DataW.trod enc Tryd.prog W 0 spare held n' 9 [c2] = xs[2]? := by simpa [cells_string] using hg 2 { name := "S", type := 9, offset := 2, embedded := false, tag := "", pkgPath := "", byteOffset := 16 } rfl
      have g3 : DataW.trod enc Tryd.prog W 0 spare held n' 5 [c3] = xs[3]? := by simpa [cells_byte] using hg 3 { name := "Many", type := 5, offset := 3, embedded := false, tag := "", pkgPath := "", byteOffset := 32 } rfl
      match xs, hxl with
      | [y0, y1, y2, y3], _ =>
        obtain ⟨k, e0, f0, w0⟩ := DataW.trod_int Tryd.underlying5 g0
        obtain ⟨z, e1, f1, w1⟩ := DataW.trod_int Tryd.underlying2 g1
        obtain ⟨s, e2, f2, w2⟩ := DataW.trod_string Tryd.underlying9 g2
        obtain ⟨m', e3, f3, w3⟩ := DataW.trod_int Tryd.underlying5 g3
        simp only [List.cons.injEq, and_true] at e0 e1 e2 e3
        subst e0 e1 e2 e3
        have q0 : W.cell? ((a.add (i * 4)).add 0) = some (.int .u8 k) := hat 0 (by omega)
        have q1 : W.cell? ((a.add (i * 4)).add 1) = some (.int .i64 z) := hat 1 (by omega)
        have q2 : W.cell? ((a.add (i * 4)).add 2) = some (.string s) := hat 2 (by omega)
        have q3 : W.cell? ((a.add (i * 4)).add 3) = some (.int .u8 m') := hat 3 (by omega)
        have hsp : i = 0 → a.spot = none := fun e => by subst e; simpa [Addr.add] using spot_none q0
        have hab : a.block < W.heap.size := by
          have := World.block_lt_of_cell? W _ q0
          rwa [add_block, add_block] at this
        have hd : ∀ j, (a.add (i * 4)).add j = ⟨a.block, a.off + i * 4 + j, none⟩ := fun j => add_add a i j hsp
        rw [hd] at q0 q1 q2 q3
        have a1 : -9223372036854775808 ≤ z ∧ z ≤ 9223372036854775807 := by simpa [Lit.wf, IntKind.min, IntKind.max, IntKind.signed, IntKind.bits] using w1
        refine ⟨⟨k, z, s, m', a1⟩, ⟨q0, q1, q2, q3⟩, hsp, hab, ?_, ?_⟩
        · have a0 : 0 ≤ k ∧ k ≤ 255 := by simpa [Lit.wf, IntKind.min, IntKind.max, IntKind.signed, IntKind.bits] using w0
          have a3 : 0 ≤ m' ∧ m' ≤ 255 := by simpa [Lit.wf, IntKind.min, IntKind.max, IntKind.signed, IntKind.bits] using w3
          exact ⟨a0.1, a0.2, a3.1, a3.2⟩
        · have hDi : D i = .agg [.lit (.int .u8 k), .lit (.int .i64 z), .lit (.string s.data.toList), .lit (.int .u8 m')] := by
            simp only [Prod.mk.injEq] at hxx
            rw [hxx.1]
            simp [f0, f1, f2, f3]
          have hin : s.data.toList.length ∈ DataW.weightsAll Tryd.prog 58 ((List.range n0).map D) := weightsAll_mem (List.mem_map.2 ⟨i, List.mem_range.2 hin, rfl⟩) _ (by rw [hDi]; simp [DataW.weights, Tryd.underlying58, DataW.weightsEach])
          have := hsz s.data.toList.length (by
            rw [hx.1]
            simp only [DataW.weights, Tryd.underlying35, List.mem_cons, List.mem_append]
            exact .inr (.inl hin))
          simpa using this)
  refine ⟨some a, c0, ts, by rw [hts], by omega, hcm, fun _ => ⟨a, rfl, ?_⟩, fun t ht => ?_, fun t ht => ?_⟩
  · have h0 : 0 < ts.length := by
      cases ts with
      | nil => rename_i hne; exact absurd rfl hne
      | cons _ _ => simp
    have := hq 0 _ (List.getElem?_eq_getElem h0)
    exact ⟨this.2.1 rfl, this.2.2.1, fun i t hi => (hq i t hi).1⟩
  · obtain ⟨i, hi⟩ := List.getElem?_of_mem ht
    exact (hq i t hi).2.2.2.1
  · obtain ⟨i, hi⟩ := List.getElem?_of_mem ht
    exact (hq i t hi).2.2.2.2

end Go.Proofs.YtmmjkhkcffgeiaaDoor
