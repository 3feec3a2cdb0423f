/- Texts in one: HeavyX, OpenC, TextX, RtA, RtB, RtC. -/
import Derived.Test.YtamlaknfakaanaaGreatDoorQ16
import Derived.Test.YtamlaknfakaanaaGreatDoorQ6
import Derived.Test.YtamlaknfakaanaaGreatDoorQ1
import Derived.Test.YtamlaknfakaanaaGreatDoorQ13
import Derived.Test.YtamlaknfakaanaaGreatDoorQ17
import Derived.WalkKit
import Derived.WalkSpells
import Derived.WalkLawsBesides
import Derived.Lib.Hide
import Derived.Test.YtamlaknfakaanaaGreatDoorQ7
import Derived.Test.YtamlaknfakaanaaGreatDoorQ9
import Derived.Laws.RangeString
import Derived.Laws.RangeAny
import Derived.Lib.RuneCount
import Derived.LoopTactic
import Derived.WalkSmall
import Derived.Test.YtamlaknfakaanaaGreatDoorLays
import Derived.OwnWalk
import Derived.BigQuiet
import Derived.RegionTactic
import Derived.Deep.QuietTactic
import Derived.IntWalk
namespace Go.Proofs.YtamlaknfakaanaaGreatDoor
open Go Go.RowKit
set_option linter.unusedVariables false
set_option linter.unusedSimpArgs false
end Go.Proofs.YtamlaknfakaanaaGreatDoor
namespace Go.Proofs.YtamlaknfakaanaaGreatDoor
open Go Go.RowKit
set_option linter.unusedVariables false
set_option linter.unusedSimpArgs false
structure GB where
  kind : Int
  path : List GStep
  key : ByteArray
  i : Int
  j : Int
  n : Int
  s : ByteArray
  v : List GTok
def HeavyC (ts : List GTok) (x : GB) (w : World) (e : Ending) (w' : World) : Prop :=
  ∃ b, e = .returned (.bool b) ∧ Below w.heap.size w w' ∧ (b = false → x.key.size + x.s.size + tot ts + tot x.v ≤ 3000 ∧ x.path.length ≤ 40)
def HeavyRelA (z0 : Nat) (w : World) (ts : List GTok) (n i : Value) (wr : World) : Prop :=
  ∃ (k : Nat) (z : Int), k ≤ ts.length ∧ i = .int .i64 k ∧ n = .int .i64 z ∧ z = (z0 + tot (ts.take k) : Nat) ∧ wr = w
set_option maxRecDepth 100000 in
set_option maxHeartbeats 8000000 in
theorem heavyc_any (hi : Nat) (A : Option Addr) (cap : Nat) (ts : List GTok) (x : GB) (B : Option Addr) (bap : Nat) (D : Option Addr) (dap : Nat) (w : World) (hT : Toks hi w A ts) (hV : Toks hi w D x.v) (hhi : hi ≤ w.heap.size) (hsz : x.key.size + x.s.size + tot ts + tot x.v ≤ 4398046511104) (hl : ts.length ≤ 2000000) (hl2 : x.v.length ≤ 2000000) :
    Calls Tryz.prog 5 #[.slice A ts.length cap, .agg #[.int .u8 x.kind, .slice B x.path.length bap, .string x.key, .int .i64 x.i, .int .i64 x.j, .int .i64 x.n, .string x.s, .slice D x.v.length dap]] w (HeavyC ts x w) := by
  have hb := below_alloc w (.cells #[.int .u8 x.kind, .slice B x.path.length bap, .string x.key, .int .i64 x.i, .int .i64 x.j, .int .i64 x.n, .string x.s, .slice D x.v.length dap] 25)
  have HW := Lib.hid (Whole.new w 25 #[.int .u8 x.kind, .slice B x.path.length bap, .string x.key, .int .i64 x.i, .int .i64 x.j, .int .i64 x.n, .string x.s, .slice D x.v.length dap])
  have HTS := Lib.hid (hT.keep (hb.mono hhi) hhi)
  have HVS := Lib.hid (hV.keep (hb.mono hhi) hhi)
  have HB := Lib.hid hb
  have HSZ := Lib.hid hsz
  clear hT hV hb
  obtain ⟨xk, xp, xy, xi, xj, xn, xs, xv⟩ := x
  simp only at HW HTS HVS HB HSZ hl2 ⊢
  have hky : xy.size ≤ 4398046511104 := by have := HSZ.out; omega
  have hks : xs.size ≤ 4398046511104 := by have := HSZ.out; omega
  generalize hpn : xp.length = pn at *
  go_enter Tryz.func5, Tryz.ntmps5
  go_wp2
  generalize (w.alloc (.cells #[.int .u8 xk, .slice B pn bap, .string xy, .int .i64 xi, .int .i64 xj, .int .i64 xn, .string xs, .slice D xv.length dap] 25)) = W0 at *
  have b1 := (HW.out.cell 1).trans rfl
  have b2 := (HW.out.cell 2).trans rfl
  have b6 := (HW.out.cell 6).trans rfl
  have b7 := (HW.out.cell 7).trans rfl
  go_loopw [5, 6] (HeavyRelA (xy.size + xs.size) W0 ts) (fun _ i _ => ts.length - (intOf i).toNat)
  case atStart => exact ⟨0, _, Nat.zero_le _, rfl, rfl, by simp [tot], rfl⟩
  case round =>
    obtain ⟨k, z, hk, rfl, rfl, hz, rfl⟩ := hrel
    by_cases hlt : k < ts.length
    · obtain ⟨⟨ab, ao, _⟩, rfl, rfl, hl3, hc⟩ := HTS.out (by intro e; simp [e] at hlt)
      have hc2 := (hc k ts[k] (List.getElem?_eq_getElem hlt)).2.2.1
      simp only at hc2
      have HT := Lib.hid (tot_take ts k hlt)
      have hb1 := tot_take_le ts (k + 1)
      rw [tot_take ts k hlt] at hb1
      have hb2 : ts[k].s.size ≤ 4398046511104 := by have := HSZ.out; omega
      have hz1 : 0 ≤ z := by omega
      have hz2 : z ≤ 13194139533312 := by have := HSZ.out; omega
      have HZ := Lib.hid hz
      clear hc hl3 hb1 hz
      generalize ts[k].s = sk at *
      go_wp2
      go_roundw
      case rel => exact ⟨k + 1, _, by omega, by go_num, rfl, by rw [HT.out, HZ.out]; push_cast; omega, rfl⟩
      case measure => simp [intOf]; omega
    · have hk' : k = ts.length := by omega
      have ht : tot (ts.take k) = tot ts := by rw [List.take_of_length_le (by omega)]
      rw [ht] at hz
      have HK := Lib.hid (And.intro hk' ht)
      clear hk' ht
      go_wp2
      go_loopw [5, 7] (HeavyRelA (xy.size + xs.size + tot ts) wr xv) (fun _ i _ => xv.length - (intOf i).toNat)
      case atStart => exact ⟨0, _, Nat.zero_le _, rfl, rfl, by rw [hz]; simp [tot], rfl⟩
      case round =>
        obtain ⟨j, y, hj, rfl, rfl, hy, rfl⟩ := hrel
        by_cases hlt2 : j < xv.length
        · obtain ⟨⟨ab, ao, _⟩, rfl, rfl, hl3, hc⟩ := HVS.out (by intro e; simp [e] at hlt2)
          have hc2 := (hc j xv[j] (List.getElem?_eq_getElem hlt2)).2.2.1
          simp only at hc2
          have HT := Lib.hid (tot_take xv j hlt2)
          have hb1 := tot_take_le xv (j + 1)
          rw [tot_take xv j hlt2] at hb1
          have hb2 : xv[j].s.size ≤ 4398046511104 := by have := HSZ.out; omega
          have hz1 : 0 ≤ y := by omega
          have hz2 : y ≤ 13194139533312 := by have := HSZ.out; omega
          have HZ := Lib.hid hy
          clear hc hl3 hb1 hy
          generalize xv[j].s = sk at *
          go_wp2
          go_roundw
          case rel => exact ⟨j + 1, _, by omega, by go_num, rfl, by rw [HT.out, HZ.out]; push_cast; omega, rfl⟩
          case measure => simp [intOf]; omega
        · have ht2 : tot (xv.take j) = tot xv := by rw [List.take_of_length_le (by omega)]
          rw [ht2] at hy
          have hy2 : y ≤ 4398046511104 := by have := HSZ.out; omega
          have hy3 : 0 ≤ y := by omega
          have HY := Lib.hid hy
          clear hy ht2 hz
          by_cases q3 : 3000 < y
          · have Q3 := Lib.hid q3
            go_wp2
            go_ret
            exact ⟨true, rfl, HB.out, fun h => by cases h⟩
          · have Q3 := Lib.hid q3
            by_cases q4 : 40 < pn
            · have q4' : (40 : Int) < (pn : Int) := by omega
              have Q4 := Lib.hid q4
              clear q4
              go_wp2
              go_ret
              exact ⟨true, by simp, HB.out, fun h => by cases h⟩
            · have q4' : ¬ (40 : Int) < (pn : Int) := by omega
              have Q4 := Lib.hid q4
              clear q4
              go_wp2
              go_ret
              exact ⟨false, by simp, HB.out, fun _ => ⟨by show xy.size + xs.size + tot ts + tot xv ≤ 3000; have h1 := HY.out; have h2 := Q3.out; omega, by show xp.length ≤ 40; rw [hpn]; have := Q4.out; omega⟩⟩
end Go.Proofs.YtamlaknfakaanaaGreatDoor
namespace Go.Proofs.YtamlaknfakaanaaGreatDoor
open Go Go.RowKit
set_option linter.unusedVariables false
set_option linter.unusedSimpArgs false
end Go.Proofs.YtamlaknfakaanaaGreatDoor

namespace Go.Proofs.YtamlaknfakaanaaGreatDoor
open Go Go.ChangeShapes Go.WideShapes Go.ChangeAt Go.RowKit Go.Lib Go.Shelf
set_option linter.unusedVariables false
set_option linter.unusedSimpArgs false
def tokD {H : Type} (t : GTok) : DataW H := .agg [.lit (.int .u8 t.k), .lit (.int .i64 t.n), .lit (.string t.s.data.toList), .lit (.int .u8 t.m)]
theorem bulk_toks {H : Type} : ∀ (ts : List GTok), tot ts + 4 * ts.length ≤ Rows.uptoBulkAll (ts.map (tokD (H := H)))
  | [] => by simp [tot]
  | t :: r => by
    have h := bulk_toks (H := H) r
    simp only [List.map_cons, Rows.uptoBulkAll, tokD, Rows.uptoBulk, tot, List.length_cons]
    have e : t.s.data.toList.length = t.s.size := by simp
    rw [e]
    omega
set_option maxRecDepth 100000 in
theorem open_toksU {H : Type} {enc : TypeId × Value → H} {W : World} {spare : Nat → Bool} {held : Bool} {v : Value} {d : DataW H} {p : List MemPlace} {fuel : Nat} (hf : DataW.trod enc Tryz.prog W 0 spare held fuel 22 [v] = some (d, p)) :
    ∃ (A : Option Addr) (cap : Nat) (ts : List GTok), v = .slice A ts.length cap ∧ ts.length ≤ cap ∧ cap ≤ maxLen ∧ Toks W.heap.size W A ts ∧ (∀ t ∈ ts, 0 ≤ t.k ∧ t.k ≤ 255 ∧ 0 ≤ t.m ∧ t.m ≤ 255) ∧ tot ts + 4 * ts.length ≤ Rows.uptoBulk d := by
  rcases Go.Deep.open_slice Tryz.underlying22 hf with ⟨hc, _⟩ | ⟨a, n0, c0, m, n, D, Pl, hcs, _, hlc, hcm, hm, hx, hi⟩
  · simp only [List.cons.injEq, and_true] at hc
    subst hc
    exact ⟨none, 0, [], rfl, Nat.le_refl _, by decide, fun h => absurd rfl h, fun t ht => by simp at ht, by simp [tot]⟩
  simp only [List.cons.injEq, and_true] at hcs
  subst hcs
  simp only [Prod.mk.injEq] at hx
  have hlm : n0 ≤ m := by rw [hm]; split <;> omega
  obtain ⟨ts, hts, hq⟩ := list_of (Q := fun i (t : GTok) => (W.cell? ⟨a.block, a.off + i * 4, none⟩ = some (.int .u8 t.k) ∧ W.cell? ⟨a.block, a.off + i * 4 + 1, none⟩ = some (.int .i64 t.n) ∧
      W.cell? ⟨a.block, a.off + i * 4 + 2, none⟩ = some (.string t.s) ∧ W.cell? ⟨a.block, a.off + i * 4 + 3, none⟩ = some (.int .u8 t.m)) ∧ (i = 0 → a.spot = none) ∧ a.block < W.heap.size ∧ (0 ≤ t.k ∧ t.k ≤ 255 ∧ 0 ≤ t.m ∧ t.m ≤ 255) ∧ D i = tokD t) n0 (fun i hin => by
    obtain ⟨cs', hcl, ht'⟩ := hi i (by omega)
    rw [cells_tok] at hcl
    obtain ⟨xs, n', _, hxx, hlen, hxl, hg⟩ := DataW.trod_struct Tryz.underlying57 ht'
    rw [cells_tok] at hlen
    obtain ⟨_, _, hat⟩ := World.cells?_some hcl
    match cs', hlen with
    | [c0, c1, c2, c3], _ =>
      have g0 : DataW.trod enc Tryz.prog W 0 spare held n' 5 [c0] = xs[0]? := by simpa [cells_byte] using hg 0 { name := "Kind", type := 5, offset := 0, embedded := false, tag := "", pkgPath := "", byteOffset := 0 } rfl
      have g1 : DataW.trod enc Tryz.prog W 0 spare held n' 2 [c1] = xs[1]? := by simpa [cells_int64] using hg 1 { name := "N", type := 2, offset := 1, embedded := false, tag := "", pkgPath := "", byteOffset := 8 } rfl
      have g2 : DataW.trod enc Tryz.prog W 0 spare held n' 9 [c2] = xs[2]? := by simpa [cells_string] using hg 2 { name := "S", type := 9, offset := 2, embedded := false, tag := "", pkgPath := "", byteOffset := 16 } rfl
      have g3 : DataW.trod enc Tryz.prog W 0 spare held n' 5 [c3] = xs[3]? := by simpa [cells_byte] using hg 3 { name := "Many", type := 5, offset := 3, embedded := false, tag := "", pkgPath := "", byteOffset := 32 } rfl
      match xs, hxl with
      | [y0, y1, y2, y3], _ =>
        obtain ⟨k, e0, f0, w0⟩ := DataW.trod_int Tryz.underlying5 g0
        obtain ⟨z, e1, f1, w1⟩ := DataW.trod_int Tryz.underlying2 g1
        obtain ⟨s, e2, f2, w2⟩ := DataW.trod_string Tryz.underlying9 g2
        obtain ⟨m', e3, f3, w3⟩ := DataW.trod_int Tryz.underlying5 g3
        simp only [List.cons.injEq, and_true] at e0 e1 e2 e3
        subst e0 e1 e2 e3
        have q0 : W.cell? ((a.add (i * 4)).add 0) = some (.int .u8 k) := hat 0 (by omega)
        have q1 : W.cell? ((a.add (i * 4)).add 1) = some (.int .i64 z) := hat 1 (by omega)
        have q2 : W.cell? ((a.add (i * 4)).add 2) = some (.string s) := hat 2 (by omega)
        have q3 : W.cell? ((a.add (i * 4)).add 3) = some (.int .u8 m') := hat 3 (by omega)
        have hsp : i = 0 → a.spot = none := fun e => by subst e; simpa [Addr.add] using spot_none q0
        have hab : a.block < W.heap.size := by
          have := World.block_lt_of_cell? W _ q0
          rwa [add_block, add_block] at this
        have hd : ∀ j, (a.add (i * 4)).add j = ⟨a.block, a.off + i * 4 + j, none⟩ := fun j => add_add a i j hsp
        rw [hd] at q0 q1 q2 q3
        have a1 : -9223372036854775808 ≤ z ∧ z ≤ 9223372036854775807 := by simpa [Lit.wf, IntKind.min, IntKind.max, IntKind.signed, IntKind.bits] using w1
        refine ⟨⟨k, z, s, m', a1⟩, ⟨q0, q1, q2, q3⟩, hsp, hab, ?_, ?_⟩
        · have a0 : 0 ≤ k ∧ k ≤ 255 := by simpa [Lit.wf, IntKind.min, IntKind.max, IntKind.signed, IntKind.bits] using w0
          have a3 : 0 ≤ m' ∧ m' ≤ 255 := by simpa [Lit.wf, IntKind.min, IntKind.max, IntKind.signed, IntKind.bits] using w3
          exact ⟨a0.1, a0.2, a3.1, a3.2⟩
        · simp only [Prod.mk.injEq] at hxx
          rw [hxx.1]
          simp [f0, f1, f2, f3, tokD])
  refine ⟨some a, c0, ts, by rw [hts], by omega, hcm, fun _ => ⟨a, rfl, ?_⟩, fun t ht => ?_, ?_⟩
  · have h0 : 0 < ts.length := by
      cases ts with
      | nil => rename_i hne; exact absurd rfl hne
      | cons _ _ => simp
    have := hq 0 _ (List.getElem?_eq_getElem h0)
    exact ⟨this.2.1 rfl, this.2.2.1, fun i t hi => (hq i t hi).1⟩
  · obtain ⟨i, hi⟩ := List.getElem?_of_mem ht
    exact (hq i t hi).2.2.2.1
  · rw [hx.1]
    have e : (List.range n0).map D = ts.map tokD := List.ext_getElem? fun i => by
      by_cases hi : i < n0
      · have hi2 : i < ts.length := by omega
        have h1 := (hq i ts[i] (List.getElem?_eq_getElem hi2)).2.2.2.2
        simp [hi, hi2, h1]
      · have hi2 : ¬ i < ts.length := by omega
        simp [hi, hi2]
    rw [e]
    have h1 := bulk_toks (H := H) ts
    simp only [Rows.uptoBulk]
    omega
theorem cells_steps1 : Tryz.prog.cellsOf 23 = 1 := by kernel_rfl
theorem cells_toks1 : Tryz.prog.cellsOf 22 = 1 := by kernel_rfl
theorem cells_bare : Tryz.prog.cellsOf 25 = 8 := by kernel_rfl
set_option maxRecDepth 100000 in
theorem open_bare {H : Type} {enc : TypeId × Value → H} {W : World} {spare : Nat → Bool} {held : Bool} {v : Value} {d : DataW H} {p : List MemPlace} (h : DataW.Trod enc Tryz.prog W 0 spare held 25 v d p)
    (hv : ∃ cs, v = .agg cs ∧ cs.size = 8) (hsz : ∀ n ∈ d.weights Tryz.prog 25, n ≤ reachBytes) :
    ∃ (x : GB) (B : Option Addr) (bap : Nat) (D : Option Addr) (dap : Nat), v = .agg #[.int .u8 x.kind, .slice B x.path.length bap, .string x.key, .int .i64 x.i, .int .i64 x.j, .int .i64 x.n, .string x.s, .slice D x.v.length dap] ∧
      (x.path.length ≤ bap ∧ bap ≤ maxLen ∧ Steps W.heap.size W B x.path ∧ ∀ t ∈ x.path, t.key.size ≤ 140737488351232) ∧ (x.v.length ≤ dap ∧ dap ≤ maxLen ∧ Toks W.heap.size W D x.v ∧ ∀ t ∈ x.v, 0 ≤ t.k ∧ t.k ≤ 255 ∧ 0 ≤ t.m ∧ t.m ≤ 255) ∧
      x.key.size + x.s.size + tot x.v + 4 * x.v.length ≤ Rows.uptoBulk d := by
  obtain ⟨fuel, hf⟩ := h
  obtain ⟨cs, rfl, hs8⟩ := hv
  obtain ⟨xs, n', _, hxx, hlen, hxl, hg⟩ := DataW.trod_struct Tryz.underlying25 hf
  obtain ⟨l⟩ := cs
  simp only [Value.cells] at hg hlen hxx
  match l, hs8 with
  | [c0, c1, c2, c3, c4, c5, c6, c7], _ =>
    have g0 : DataW.trod enc Tryz.prog W 0 spare held n' 5 [c0] = xs[0]? := by simpa [cells_byte] using hg 0 { name := "Kind", type := 5, offset := 0, embedded := false, tag := "", pkgPath := "", byteOffset := 0 } rfl
    have g1 : DataW.trod enc Tryz.prog W 0 spare held n' 23 [c1] = xs[1]? := by simpa [cells_steps1] using hg 1 { name := "Path", type := 23, offset := 1, embedded := false, tag := "", pkgPath := "", byteOffset := 8 } rfl
    have g2 : DataW.trod enc Tryz.prog W 0 spare held n' 9 [c2] = xs[2]? := by simpa [cells_string] using hg 2 { name := "Key", type := 9, offset := 2, embedded := false, tag := "", pkgPath := "", byteOffset := 32 } rfl
    have g3 : DataW.trod enc Tryz.prog W 0 spare held n' 3 [c3] = xs[3]? := by simpa [cells_int] using hg 3 { name := "I", type := 3, offset := 3, embedded := false, tag := "", pkgPath := "", byteOffset := 48 } rfl
    have g4 : DataW.trod enc Tryz.prog W 0 spare held n' 3 [c4] = xs[4]? := by simpa [cells_int] using hg 4 { name := "J", type := 3, offset := 4, embedded := false, tag := "", pkgPath := "", byteOffset := 56 } rfl
    have g5 : DataW.trod enc Tryz.prog W 0 spare held n' 2 [c5] = xs[5]? := by simpa [cells_int64] using hg 5 { name := "N", type := 2, offset := 5, embedded := false, tag := "", pkgPath := "", byteOffset := 64 } rfl
    have g6 : DataW.trod enc Tryz.prog W 0 spare held n' 9 [c6] = xs[6]? := by simpa [cells_string] using hg 6 { name := "S", type := 9, offset := 6, embedded := false, tag := "", pkgPath := "", byteOffset := 72 } rfl
    have g7 : DataW.trod enc Tryz.prog W 0 spare held n' 22 [c7] = xs[7]? := by simpa [cells_toks1] using hg 7 { name := "V", type := 22, offset := 7, embedded := false, tag := "", pkgPath := "", byteOffset := 88 } rfl
    match xs, hxl with
    | [y0, y1, y2, y3, y4, y5, y6, y7], _ =>
      obtain ⟨k, e0, f0, w0⟩ := DataW.trod_int Tryz.underlying5 g0
      obtain ⟨s2, e2, f2, w2⟩ := DataW.trod_string Tryz.underlying9 g2
      obtain ⟨z3, e3, f3, w3⟩ := DataW.trod_int Tryz.underlying3 g3
      obtain ⟨z4, e4, f4, w4⟩ := DataW.trod_int Tryz.underlying3 g4
      obtain ⟨z5, e5, f5, w5⟩ := DataW.trod_int Tryz.underlying2 g5
      obtain ⟨s6, e6, f6, w6⟩ := DataW.trod_string Tryz.underlying9 g6
      simp only [List.cons.injEq, and_true] at e0 e2 e3 e4 e5 e6
      subst e0 e2 e3 e4 e5 e6
      simp only [Prod.mk.injEq] at hxx
      obtain ⟨hd, _⟩ := hxx
      simp only [List.map_cons, List.map_nil] at hd
      obtain ⟨D, dap, ts, rfl, hl1, hl2, hT, hr, hbk⟩ := open_toksU (d := y7.1) (p := y7.2) g7
      have hv1 : ∃ A n c, c1 = .slice A n c := by
        rcases Go.Deep.open_slice Tryz.underlying23 (x := y1) g1 with ⟨hc, _⟩ | ⟨a, len, cap, _, _, _, _, hcs, _⟩
        · simp only [List.cons.injEq, and_true] at hc; exact ⟨_, _, _, hc⟩
        · simp only [List.cons.injEq, and_true] at hcs; exact ⟨_, _, _, hcs⟩
      have hw1 : ∀ n ∈ y1.1.weights Tryz.prog 23, n ≤ reachBytes := fun n hn => hsz n (by
        rw [hd]
        simp [DataW.weights, Tryz.underlying25, DataW.weightsEach, hn])
      obtain ⟨B, bap, ps, hps, hp1, hp2, hS, hkk⟩ := open_steps (d := y1.1) (p := y1.2) (v := c1) ⟨n', by obtain ⟨A, n, c, rfl⟩ := hv1; simpa [Value.cells] using g1⟩ hv1 hw1
      subst hps
      refine ⟨⟨k, ps, s2, z3, z4, z5, s6, ts⟩, B, bap, D, dap, rfl, ⟨hp1, hp2, hS, hkk⟩, ⟨hl1, hl2, hT, hr⟩, ?_⟩
      rw [hd]
      simp only [Rows.uptoBulk, Rows.uptoBulkAll, f2, f6]
      have e2 : s2.data.toList.length = s2.size := by simp
      have e6 : s6.data.toList.length = s6.size := by simp
      rw [e2, e6]
      omega
end Go.Proofs.YtamlaknfakaanaaGreatDoor

namespace Go.Proofs.YtamlaknfakaanaaGreatDoor
open Go Go.RowKit
set_option linter.unusedVariables false
set_option linter.unusedSimpArgs false
theorem ret_intA {k : IntKind} {a b : Int} (h : a = b) : Ending.returned (.int k a) = .returned (.int k b) := by rw [h]
theorem iter_below (w : World) (s : ByteArray) (pos : Nat) : Below w.heap.size w (w.iter s pos) := by
  show Below w.heap.size w _
  unfold World.iter
  exact (Below.refl _ w).alloc (Nat.le_refl _) _
set_option maxRecDepth 100000 in
set_option maxHeartbeats 2000000 in
theorem text_Len (s : ByteArray) (w : World) (hs : s.size ≤ 9223372036854775807) :
    Calls Tryz.prog 99 #[.string s] w fun e w' => e = .returned (.int .i64 (nChars s)) ∧ Below w.heap.size w w' := by
  obtain ⟨hch, hle⟩ := nChars_chars s
  have HC := Lib.hid hch
  clear hch
  generalize hc : nChars s = c at *
  clear hc
  go_enter Tryz.func99, Tryz.ntmps99
  go_wp2
  go_loopw [3] (fun n w' => ∃ k : Nat, w' = w.iter s (cutS s k) ∧ n = .int .i64 k ∧ k ≤ c) (fun _ w' => s.size - w'.iterPos w.heap.size)
  case atStart => exact ⟨0, rfl, rfl, Nat.zero_le _⟩
  case round =>
    obtain ⟨k, rfl, rfl, hk⟩ := hrel
    by_cases hp : cutS s k < s.size
    · have hkc : k < c := (Chars.iff HC.out).1 hp
      have hnx : ∀ ty, (Instr.next (.pointer (some ⟨w.heap.size, 0, none⟩)) true ty).run Tryz.prog (w.iter s (cutS s k)) = _ := fun ty => run_next_any w s (cutS s k) ty hp
      have hnext : cutS s (k + 1) = cutS s k + (Utf8.decode s (cutS s k)).2 := cut_next hp
      have hwd := Lib.decode_width_pos s (cutS s k) hp
      have HN := Lib.hid hnext
      have HP := Lib.hid hp
      clear hnext
      generalize cutS s k = pos at *
      go_wp2
      go_roundw
      case rel => exact ⟨k + 1, by rw [HN.out], by go_num, hkc⟩
      case measure =>
        simp
        omega
    · have hkc : k = c := by
        have h1 : ¬ k < c := fun h => hp ((Chars.iff HC.out).2 h)
        omega
      have hnx : ∀ ty, (Instr.next (.pointer (some ⟨w.heap.size, 0, none⟩)) true ty).run Tryz.prog (w.iter s (cutS s k)) = _ := fun ty => run_next_end w s (cutS s k) ty hp
      have HK := Lib.hid hkc
      clear hkc
      generalize cutS s k = pos at *
      go_wp2
      go_ret
      exact ⟨ret_intA (by have := HK.out; omega), iter_below w s pos⟩
set_option maxRecDepth 100000 in
set_option maxHeartbeats 2000000 in
theorem text_offset (s : ByteArray) (i : Nat) (w : World) (hs : s.size ≤ 9223372036854775807) (hi : i ≤ 9223372036854775807) :
    Calls Tryz.prog 81 #[.string s, .int .i64 i] w fun e w' => e = .returned (.int .i64 (cutS s i)) ∧ Below w.heap.size w w' := by
  go_enter Tryz.func81, Tryz.ntmps81
  go_wp2
  go_loopw [1, 5] (fun n _ w' => ∃ k : Nat, w' = w.iter s (cutS s k) ∧ k ≤ i ∧ n = .int .i64 ((i - k : Nat) : Int)) (fun _ _ w' => s.size - w'.iterPos w.heap.size)
  case atStart => exact ⟨0, rfl, Nat.zero_le _, rfl⟩
  case round =>
    obtain ⟨k, rfl, hk, rfl⟩ := hrel
    by_cases hp : cutS s k < s.size
    · have hnx : ∀ ty, (Instr.next (.pointer (some ⟨w.heap.size, 0, none⟩)) true ty).run Tryz.prog (w.iter s (cutS s k)) = _ := fun ty => run_next_any w s (cutS s k) ty hp
      have hnext : cutS s (k + 1) = cutS s k + (Utf8.decode s (cutS s k)).2 := cut_next hp
      have hwd := Lib.decode_width_pos s (cutS s k) hp
      have HN := Lib.hid hnext
      clear hnext
      generalize hpos : cutS s k = pos at *
      have HPOS := Lib.hid hpos
      clear hpos
      by_cases hki : k < i
      · obtain ⟨d, hd⟩ : ∃ d, i - k = d + 1 := ⟨i - k - 1, by omega⟩
        rw [hd]
        have HD := Lib.hid (show i - (k + 1) = d by omega)
        have hz : (((d + 1 : Nat) : Int) == 0) = false := by simp; omega
        have hd9 : d ≤ 9223372036854775806 := by omega
        clear hd
        go_wp2
        go_roundw
        case rel => exact ⟨k + 1, by rw [HN.out], hki, by rw [HD.out] <;> go_num⟩
        case measure =>
          simp
          omega
      · have hik : i - k = 0 := by omega
        have HK := Lib.hid (show k = i by omega)
        rw [hik]
        clear hki hik hk
        go_wp2
        go_ret
        exact ⟨ret_intA (by have h1 := HPOS.out; have h2 := HK.out; subst h2; omega), iter_below w s _⟩
    · have hend : cutS s i = s.size := by
        have h1 : cutS s k = s.size := by have := cutS_le s k; omega
        obtain ⟨j, rfl⟩ := Nat.exists_eq_add_of_le hk
        exact cut_end h1 j
      have hnx : ∀ ty, (Instr.next (.pointer (some ⟨w.heap.size, 0, none⟩)) true ty).run Tryz.prog (w.iter s (cutS s k)) = _ := fun ty => run_next_end w s (cutS s k) ty hp
      have HE := Lib.hid hend
      clear hend
      generalize cutS s k = pos at *
      go_wp2
      go_ret
      exact ⟨ret_intA (by have := HE.out; omega), iter_below w s pos⟩
end Go.Proofs.YtamlaknfakaanaaGreatDoor
namespace Go.Proofs.YtamlaknfakaanaaGreatDoor
open Go Go.RowKit
set_option linter.unusedVariables false
set_option linter.unusedSimpArgs false
set_option maxRecDepth 100000 in
set_option maxHeartbeats 8000000 in
theorem text_Check (s : ByteArray) (c : GC) (A AL AO : Option Addr) (cp cL cO : Nat) (w : World) (hs : s.size ≤ 9223372036854775807) (hk : c.kind = 8 ∨ c.kind = 9) :
    Calls Tryz.prog 76 #[.string s, .agg #[.int .u8 c.kind, .slice A c.path.length cp, .string c.key, .int .i64 c.i, .int .i64 c.j, .int .i64 c.n, .int .u8 c.v.kind, .int .i64 c.v.num, .string c.v.str, .slice AL c.v.items.length cL, .slice AO c.v.vals.length cO, .string c.s]] w fun e w' => e = .returned (.int .u16 (chkT (nChars s) c.kind.toNat c.i c.n)) ∧ Below w.heap.size w w' := by
  have HL := Lib.hid (fun W => text_Len s W hs)
  have hle : nChars s ≤ 9223372036854775807 := Nat.le_trans (nChars_chars s).2 hs
  have H0 := Lib.hid (Whole.new w 35 #[.int .u8 c.kind, .slice A c.path.length cp, .string c.key, .int .i64 c.i, .int .i64 c.j, .int .i64 c.n, .int .u8 c.v.kind, .int .i64 c.v.num, .string c.v.str, .slice AL c.v.items.length cL, .slice AO c.v.vals.length cO, .string c.s])
  have HB := Lib.hid (below_alloc w (.cells #[.int .u8 c.kind, .slice A c.path.length cp, .string c.key, .int .i64 c.i, .int .i64 c.j, .int .i64 c.n, .int .u8 c.v.kind, .int .i64 c.v.num, .string c.v.str, .slice AL c.v.items.length cL, .slice AO c.v.vals.length cO, .string c.s] 35))
  rcases hk with hk | hk
  · have hk8 : (c.kind != 8) = false := by simp; omega
    have hk9 : (c.kind == 9) = false := by simp; omega
    rw [show chkT (nChars s) c.kind.toNat c.i c.n = if c.i < 0 then 32 else if (nChars s : Int) < c.i then 32 else 0 by unfold chkT; rw [show c.kind.toNat = 8 by omega]; simp; repeat' split; all_goals omega]
    clear hk
    generalize nChars s = m at *
    by_cases h0 : c.i < 0 <;> by_cases h1 : (m : Int) < c.i <;> first | (exfalso; omega) | (have K0 := Lib.hid h0; have K1 := Lib.hid h1; (go_enter Tryz.func76, Tryz.ntmps76; go_wp2_with (go_at_call 99; refine (HL.out _).mono ?_; rintro e w1 ⟨rfl, hb⟩; have H1 := Lib.hid (H0.out.below hb (by simp)); have HB1 := Lib.hid (HB.out.trans (hb.mono (by simp))); obtain ⟨c0, c1, c2, c3, c4, c5, c6, c7, c8, c9, c10, c11, _⟩ := H1.out.tw; clear hb); go_ret; exact ⟨by simp [K0.out, K1.out], HB1.out⟩))
  · have hk8 : (c.kind != 8) = true := by simp; omega
    have hk9n : (c.kind != 9) = false := by simp; omega
    have hk9 : (c.kind == 9) = true := by simp; omega
    rw [show chkT (nChars s) c.kind.toNat c.i c.n = if c.i < 0 then 32 else if (nChars s : Int) < c.i then 32 else if c.n < 1 then 32 else if (nChars s : Int) - c.i < c.n then 32 else 0 by unfold chkT; rw [show c.kind.toNat = 9 by omega]; simp; repeat' split; all_goals omega]
    clear hk
    generalize nChars s = m at *
    by_cases h0 : c.i < 0 <;> by_cases h1 : (m : Int) < c.i <;> by_cases h2 : c.n < 1 <;> by_cases h3 : (m : Int) - c.i < c.n <;> first | (exfalso; omega) | (have K0 := Lib.hid h0; have K1 := Lib.hid h1; have K2 := Lib.hid h2; have K3 := Lib.hid h3; (go_enter Tryz.func76, Tryz.ntmps76; go_wp2_with (go_at_call 99; refine (HL.out _).mono ?_; rintro e w1 ⟨rfl, hb⟩; have H1 := Lib.hid (H0.out.below hb (by simp)); have HB1 := Lib.hid (HB.out.trans (hb.mono (by simp))); obtain ⟨c0, c1, c2, c3, c4, c5, c6, c7, c8, c9, c10, c11, _⟩ := H1.out.tw; clear hb); go_ret; exact ⟨by simp [K0.out, K1.out, K2.out, K3.out], HB1.out⟩))
end Go.Proofs.YtamlaknfakaanaaGreatDoor

namespace Go.Proofs.YtamlaknfakaanaaGreatDoor
open Go Go.RowKit Go.Shelf
set_option linter.unusedVariables false
set_option linter.unusedSimpArgs false
theorem infoInt : (Tryz.prog.info? 3).map (fun i => (i.zero, i.size, i.bytes)) = some (some (.int .i64 0), 1, 8) := by kernel_rfl
theorem call_decode (s : ByteArray) (p : Nat) (w : World) (hp : p < s.size) (hT : Tabs w) : Calls Tryz.prog 92 #[.string (s.extract p s.size)] w fun e w' => ∃ r : Int, e = .returned (.tuple #[.int .i32 r, .int .i64 (wdS s p)]) ∧ Below w.heap.size w w' :=
  (Tryz.utf8_DecodeRuneInString (s.extract p s.size) w hT).mono fun e w' ⟨he, hb⟩ => by
    have hz : (s.extract p s.size).size ≠ 0 := by rw [tail_size s p (by omega)]; omega
    have hd : (Lib.decodeGo (s.extract p s.size)).2 = wdS s p := by
      have := congrFun (wd_tail s p) 0
      unfold wdS at this ⊢
      simp only [Lib.decodeGo, hz, if_false]
      simpa using this
    rw [hd] at he
    exact ⟨_, he, hb⟩
def intV (n : Nat) : Value := .int .i64 n
def CutsOut (s : ByteArray) (m : Nat) (w : World) (e : Ending) (w' : World) : Prop :=
  ∃ b c, e = .returned (.slice (some ⟨b, 0, none⟩) (m + 1) c) ∧ w.heap.size ≤ b ∧ b < w'.heap.size ∧ (∀ k, k ≤ m → w'.cell? ⟨b, k, none⟩ = some (.int .i64 (cutS s k))) ∧ Below w.heap.size w w'
def CutsRel (w : World) (s : ByteArray) (m : Nat) (v i : Value) (wr : World) : Prop := ∃ k : Nat, i = .int .i64 (cutS s k) ∧ k ≤ m ∧ wr.ownsRow w.heap.size 3 1 v k ((cutsL (wdS s) s.size k).map intV) ∧ Below w.heap.size w wr
theorem cuts_out {s : ByteArray} {m : Nat} {w w' : World} {v : Value} (hown : w'.ownsRow w.heap.size 3 1 v (m + 1) ((cutsL (wdS s) s.size m).map intV ++ [.int .i64 s.size])) (he : cutS s m = s.size) (hb : Below w.heap.size w w') : CutsOut s m w (.returned v) w' := by
  rcases hown.2 with ⟨e, hn⟩ | ⟨g, cap, cur, e, hg, _⟩
  · simp at hn
  · subst e
    have hlt := (hown.lt g rfl)
    refine ⟨g, cap, rfl, hlt.1, hlt.2, fun k hk => ?_, hb⟩
    have := hown.cells (g := g) rfl k (.int .i64 (cutS s k)) (by
      rw [show (cutsL (wdS s) s.size m).map intV ++ [.int .i64 s.size] = (cutsL (wdS s) s.size (m + 1)).map intV by rw [cuts_succ, List.map_append, show cutAt (wdS s) s.size m = s.size from he]; rfl, List.getElem?_map, cuts_get _ _ _ (by omega)]
      rfl)
    by_cases e : k = 0 <;> simpa [Addr.add, e] using this
set_option maxRecDepth 100000 in
set_option maxHeartbeats 4000000 in
theorem ref_cuts (s : ByteArray) (w : World) (hs : s.size ≤ 1000000000) (hT : Tabs w) :
    Calls Tryz.prog 54 #[.string s] w (CutsOut s (nChars s) w) := by
  obtain ⟨hch, hle⟩ := nChars_chars s
  have HC := Lib.hid hch
  have HT := Lib.hid (fun W (hb : Below w.heap.size w W) => hT.below hb (Nat.le_refl _))
  obtain ⟨i0, hi0, hz0, hz1, hz2⟩ := info_parts infoInt
  have HI0 := Lib.hid (And.intro hi0 (And.intro hz0 (And.intro hz1 hz2)))
  clear hi0 hz0 hz1 hz2 hch hT
  generalize hm : nChars s = m at *
  clear hm
  go_enter Tryz.func54, Tryz.ntmps54
  go_wp2
  go_loopw [3, 4] (CutsRel w s m) (fun _ i _ => s.size - (intOf i).toNat)
  case atStart => exact ⟨0, rfl, Nat.zero_le _, World.ownsRow_nil _ _ _ _, Below.refl _ _⟩
  case round =>
    obtain ⟨k, rfl, hk, hown, hB⟩ := hrel
    obtain ⟨A, cp, rfl⟩ := own_form hown
    have HO := Lib.hid hown
    have HB := Lib.hid hB
    have hmax : k + 1 ≤ maxLen := by unfold maxLen; omega
    have hby : (k + 1) * 8 ≤ 140737488355328 := by omega
    have HM := Lib.hid (And.intro hmax hby)
    clear hmax hby hown hB
    by_cases hp : cutS s k < s.size
    · have hkc : k < m := (Chars.iff HC.out).1 hp
      have hnext : cutS s (k + 1) = cutS s k + wdS s (cutS s k) := cut_next hp
      have hwd := wide_str s (cutS s k) hp
      have HCS := Lib.hid (show (cutsL (wdS s) s.size (k + 1)).map intV = (cutsL (wdS s) s.size k).map intV ++ [.int .i64 (cutS s k)] by rw [cuts_succ, List.map_append]; rfl)
      have HN := Lib.hid hnext
      have HD := Lib.hid (fun W (hb : Below w.heap.size w W) => call_decode s (cutS s k) W hp (HT.out W hb))
      generalize cutS s k = p at *
      generalize wdS s p = d at *
      clear hnext
      go_wp2_with (first
        | (at_builtin; refine wpList_append_own_at _ rfl (.tmp 11) (.tmp 13) 98 rfl w.heap.size 3 i0 _ 1 8 Tryz.underlying98 HI0.out.1 HI0.out.2.1 HI0.out.2.2.1 HI0.out.2.2.2 rfl (by decide) (.slice A k cp) k _ rfl (HO.out.alloc _) ⟨wr.heap.size, 0, none⟩ 1 1 [.int .i64 p] rfl rfl (row_cells' _ _ rfl _ _) (by simp [Value.oneCell']) HM.out.1 HM.out.2 (by have := HB.out.size; simp; omega) ?_; intro v3 W3 hown3 hgrow3 _ hat3; obtain ⟨A3, c3, rfl⟩ := own_form hown3; have H3 := Lib.hid (And.intro hown3 ((HB.out.alloc HB.out.size _).grown hgrow3 (by have := HB.out.size; simp; omega) (fun j hj => (HO.out.lt j hj).1))); clear hown3 hgrow3 hat3)
        | (go_at_call 92; refine (HD.out _ H3.out.2).mono ?_; rintro e w4 ⟨r, rfl, hb⟩; have H4 := Lib.hid (And.intro (own_below H3.out.1 hb) (H3.out.2.trans (hb.mono H3.out.2.size))); clear hb))
      go_roundw
      case rel => exact ⟨k + 1, by rw [HN.out]; go_num, hkc, by rw [HCS.out]; exact H4.out.1, H4.out.2⟩
      case measure => simp [intOf]; omega
    · have hkc : k = m := by
        have h1 : ¬ k < m := fun h => hp ((Chars.iff HC.out).2 h)
        omega
      have hend : cutS s k = s.size := by have := cutS_le s k; omega
      subst hkc
      have HE := Lib.hid hend
      rw [hend]
      clear hp hend
      go_wp2_with (at_builtin; refine wpList_append_own_at _ rfl (.tmp 25) (.tmp 28) 98 rfl w.heap.size 3 i0 _ 1 8 Tryz.underlying98 HI0.out.1 HI0.out.2.1 HI0.out.2.2.1 HI0.out.2.2.2 rfl (by decide) (.slice A k cp) k _ rfl (HO.out.alloc _) ⟨wr.heap.size, 0, none⟩ 1 1 [.int .i64 s.size] rfl rfl (row_cells' _ _ rfl _ _) (by simp [Value.oneCell']) HM.out.1 HM.out.2 (by have := HB.out.size; simp; omega) ?_; intro v3 W3 hown3 hgrow3 _ hat3; have H3 := Lib.hid (cuts_out hown3 HE.out ((HB.out.alloc HB.out.size _).grown hgrow3 (by have := HB.out.size; simp; omega) (fun j hj => (HO.out.lt j hj).1))); obtain ⟨A3, c3, rfl⟩ := own_form hown3; clear hown3 hgrow3 hat3)
      go_ret
      exact H3.out
set_option maxRecDepth 100000 in
set_option maxHeartbeats 2000000 in
theorem ref_Len (s : ByteArray) (w : World) (hs : s.size ≤ 1000000000) (hT : Tabs w) :
    Calls Tryz.prog 91 #[.string s] w fun e w' => e = .returned (.int .i64 (nChars s)) ∧ Below w.heap.size w w' := by
  have HL := Lib.hid (ref_cuts s w hs hT)
  have hle := (nChars_chars s).2
  generalize nChars s = m at *
  go_enter Tryz.func91, Tryz.ntmps91
  go_wp2_with (go_at_call 54; refine HL.out.mono ?_; rintro e w1 ⟨b, c, rfl, _, _, _, hb⟩; have H1 := Lib.hid hb; clear hb)
  go_ret
  exact ⟨ret_intA (by omega), H1.out⟩
end Go.Proofs.YtamlaknfakaanaaGreatDoor

namespace Go.Proofs.YtamlaknfakaanaaGreatDoor
open Go Go.RowKit Go.Shelf
set_option linter.unusedVariables false
set_option linter.unusedSimpArgs false
set_option maxRecDepth 100000 in
set_option maxHeartbeats 8000000 in
theorem ref_CheckT (s : ByteArray) (c : GC) (A AL AO : Option Addr) (cp cL cO : Nat) (w : World) (hs : s.size ≤ 1000000000) (hT : Tabs w) (hk : c.kind = 8 ∨ c.kind = 9) :
    Calls Tryz.prog 53 #[.string s, .agg #[.int .u8 c.kind, .slice A c.path.length cp, .string c.key, .int .i64 c.i, .int .i64 c.j, .int .i64 c.n, .int .u8 c.v.kind, .int .i64 c.v.num, .string c.v.str, .slice AL c.v.items.length cL, .slice AO c.v.vals.length cO, .string c.s]] w fun e w' => e = .returned (.int .i64 (chkT (nChars s) c.kind.toNat c.i c.n)) ∧ Below w.heap.size w w' := by
  have HL := Lib.hid (fun W (hb : Below w.heap.size w W) => ref_Len s W hs (hT.below hb (Nat.le_refl _)))
  have hle : nChars s ≤ 1000000000 := Nat.le_trans (nChars_chars s).2 hs
  have H0 := Lib.hid (Whole.new w 35 #[.int .u8 c.kind, .slice A c.path.length cp, .string c.key, .int .i64 c.i, .int .i64 c.j, .int .i64 c.n, .int .u8 c.v.kind, .int .i64 c.v.num, .string c.v.str, .slice AL c.v.items.length cL, .slice AO c.v.vals.length cO, .string c.s])
  have HB := Lib.hid (below_alloc w (.cells #[.int .u8 c.kind, .slice A c.path.length cp, .string c.key, .int .i64 c.i, .int .i64 c.j, .int .i64 c.n, .int .u8 c.v.kind, .int .i64 c.v.num, .string c.v.str, .slice AL c.v.items.length cL, .slice AO c.v.vals.length cO, .string c.s] 35))
  clear hT
  obtain ⟨c0, c1, c2, c3, c4, c5, c6, c7, c8, c9, c10, c11, _⟩ := H0.out.tw
  rcases hk with hk | hk
  · have hk8 : (c.kind != 8) = false := by simp; omega
    have hk9 : (c.kind == 9) = false := by simp; omega
    rw [show chkT (nChars s) c.kind.toNat c.i c.n = if c.i < 0 then 32 else if (nChars s : Int) < c.i then 32 else 0 by unfold chkT; rw [show c.kind.toNat = 8 by omega]; simp; repeat' split; all_goals omega]
    clear hk
    generalize nChars s = m at *
    by_cases h0 : c.i < 0 <;> by_cases h1 : (m : Int) < c.i <;> first | (exfalso; omega) | (have K0 := Lib.hid h0; have K1 := Lib.hid h1; (go_enter Tryz.func53, Tryz.ntmps53; go_wp2_with (go_at_call 91; refine (HL.out _ HB.out).mono ?_; rintro e w1 ⟨rfl, hb⟩; have H1 := Lib.hid (H0.out.below hb (by simp)); have HB1 := Lib.hid (HB.out.trans (hb.mono (by simp))); clear c0 c1 c2 c3 c4 c5 c6 c7 c8 c9 c10 c11; obtain ⟨c0, c1, c2, c3, c4, c5, c6, c7, c8, c9, c10, c11, _⟩ := H1.out.tw; clear hb); go_ret; exact ⟨by simp [K0.out, K1.out], HB1.out⟩))
  · have hk8 : (c.kind != 8) = true := by simp; omega
    have hk9n : (c.kind != 9) = false := by simp; omega
    have hk9 : (c.kind == 9) = true := by simp; omega
    rw [show chkT (nChars s) c.kind.toNat c.i c.n = if c.i < 0 then 32 else if (nChars s : Int) < c.i then 32 else if c.n < 1 then 32 else if (nChars s : Int) - c.i < c.n then 32 else 0 by unfold chkT; rw [show c.kind.toNat = 9 by omega]; simp; repeat' split; all_goals omega]
    clear hk
    generalize nChars s = m at *
    by_cases h0 : c.i < 0 <;> by_cases h1 : (m : Int) < c.i <;> by_cases h2 : c.n < 1 <;> by_cases h3 : (m : Int) - c.i < c.n <;> first | (exfalso; omega) | (have K0 := Lib.hid h0; have K1 := Lib.hid h1; have K2 := Lib.hid h2; have K3 := Lib.hid h3; (go_enter Tryz.func53, Tryz.ntmps53; go_wp2_with (go_at_call 91; refine (HL.out _ HB.out).mono ?_; rintro e w1 ⟨rfl, hb⟩; have H1 := Lib.hid (H0.out.below hb (by simp)); have HB1 := Lib.hid (HB.out.trans (hb.mono (by simp))); clear c0 c1 c2 c3 c4 c5 c6 c7 c8 c9 c10 c11; obtain ⟨c0, c1, c2, c3, c4, c5, c6, c7, c8, c9, c10, c11, _⟩ := H1.out.tw; clear hb); go_ret; exact ⟨by simp [K0.out, K1.out, K2.out, K3.out], HB1.out⟩))
end Go.Proofs.YtamlaknfakaanaaGreatDoor

namespace Go.Proofs.YtamlaknfakaanaaGreatDoor
open Go Go.RowKit Go.Shelf
set_option linter.unusedVariables false
set_option linter.unusedSimpArgs false
set_option maxRecDepth 100000 in
set_option maxHeartbeats 4000000 in
theorem ref_Do_ins (s : ByteArray) (c : GC) (i : Nat) (A AL AO : Option Addr) (cp cL cO : Nat) (w : World) (hs : s.size ≤ 1000000000) (hs2 : c.s.size ≤ 1000000000) (hT : Tabs w) (hk : c.kind = 8) (hi : c.i = i) (hin : i ≤ nChars s) :
    Calls Tryz.prog 26 #[.string s, .agg #[.int .u8 c.kind, .slice A c.path.length cp, .string c.key, .int .i64 c.i, .int .i64 c.j, .int .i64 c.n, .int .u8 c.v.kind, .int .i64 c.v.num, .string c.v.str, .slice AL c.v.items.length cL, .slice AO c.v.vals.length cO, .string c.s]] w fun e w' => e = .returned (.tuple #[.string (insS s i c.s), .int .i64 0]) ∧ Below w.heap.size w w' := by
  have h0 : chkT (nChars s) c.kind.toNat c.i c.n = 0 := by
    unfold chkT
    rw [show c.kind.toNat = 8 by omega, hi]
    simp
    omega
  have HCK := Lib.hid (fun W (hb : Below w.heap.size w W) => ref_CheckT s c A AL AO cp cL cO W hs (hT.below hb (Nat.le_refl _)) (.inl hk))
  rw [h0] at HCK
  have HCU := Lib.hid (fun W (hb : Below w.heap.size w W) => ref_cuts s W hs (hT.below hb (Nat.le_refl _)))
  have hcl := cutS_le s i
  have hnl := (nChars_chars s).2
  have hk8 : (c.kind == 8) = true := by simp; omega
  have H0 := Lib.hid (Whole.new w 35 #[.int .u8 c.kind, .slice A c.path.length cp, .string c.key, .int .i64 c.i, .int .i64 c.j, .int .i64 c.n, .int .u8 c.v.kind, .int .i64 c.v.num, .string c.v.str, .slice AL c.v.items.length cL, .slice AO c.v.vals.length cO, .string c.s])
  have HB := Lib.hid (below_alloc w (.cells #[.int .u8 c.kind, .slice A c.path.length cp, .string c.key, .int .i64 c.i, .int .i64 c.j, .int .i64 c.n, .int .u8 c.v.kind, .int .i64 c.v.num, .string c.v.str, .slice AL c.v.items.length cL, .slice AO c.v.vals.length cO, .string c.s] 35))
  rw [hi] at HCK H0 HB ⊢
  show Calls _ _ _ w fun e w' => e = .returned (.tuple #[.string (s.extract 0 (cutS s i) ++ c.s ++ s.extract (cutS s i) s.size), .int .i64 0]) ∧ Below w.heap.size w w'
  have hsz1 : (s.extract 0 (cutS s i)).size = cutS s i := by simp [ByteArray.size_extract]; omega
  have hsz2 : (s.extract 0 (cutS s i) ++ c.s).size = cutS s i + c.s.size := by rw [ByteArray.size_append, hsz1]
  have hsz3 : (s.extract (cutS s i) s.size).size = s.size - cutS s i := tail_size s _ hcl
  have hp1 : ¬ 9223372036854775807 < (s.extract 0 (cutS s i)).size + c.s.size := by omega
  have hp2 : ¬ 9223372036854775807 < (s.extract 0 (cutS s i) ++ c.s).size + (s.extract (cutS s i) s.size).size := by omega
  have HI := Lib.hid hin
  clear hk hi h0 hT
  generalize nChars s = m at *
  generalize hf : cutS s i = f at *
  have HF := Lib.hid hf
  have hf0 : (0 : Int) ≤ (f : Int) := by omega
  have hf1 : (f : Int) ≤ (s.size : Int) := by omega
  have hi0 : (0 : Int) ≤ (i : Int) := by omega
  have hi1 : (i : Int) < ((m + 1 : Nat) : Int) := by omega
  clear hf hsz1 hsz2 hsz3 hin
  go_enter Tryz.func26, Tryz.ntmps26
  go_wp2_with (first
    | (go_at_call 53; refine (HCK.out _ HB.out).mono ?_; rintro e w1 ⟨rfl, hb⟩; have H1 := Lib.hid (And.intro (H0.out.below hb (by simp)) (HB.out.trans (hb.mono (by simp)))); clear hb; obtain ⟨c0, c1, c2, c3, c4, c5, c6, c7, c8, c9, c10, c11, _⟩ := H1.out.1.tw)
    | (go_at_call 54; refine (HCU.out _ H1.out.2).mono ?_; rintro e w2 ⟨b, cap, rfl, _, _, hcut, hb⟩; have H2 := Lib.hid (And.intro (H1.out.1.below hb H1.out.1.lt) (H1.out.2.trans (hb.mono H1.out.2.size))); have q0 := (hcut i HI.out); rw [HF.out] at q0; clear hcut hb c0 c1 c2 c3 c4 c5 c6 c7 c8 c9 c10 c11; obtain ⟨c0, c1, c2, c3, c4, c5, c6, c7, c8, c9, c10, c11, _⟩ := H2.out.1.tw))
  go_region
  go_wp2
  go_ret2
  exact ⟨rfl, H2.out.2.drew⟩
set_option maxRecDepth 100000 in
set_option maxHeartbeats 4000000 in
theorem ref_Do_del (s : ByteArray) (c : GC) (i n : Nat) (A AL AO : Option Addr) (cp cL cO : Nat) (w : World) (hs : s.size ≤ 1000000000) (hT : Tabs w) (hk : c.kind = 9) (hi : c.i = i) (hn : c.n = n) (h1 : 1 ≤ n) (hin : i + n ≤ nChars s) :
    Calls Tryz.prog 26 #[.string s, .agg #[.int .u8 c.kind, .slice A c.path.length cp, .string c.key, .int .i64 c.i, .int .i64 c.j, .int .i64 c.n, .int .u8 c.v.kind, .int .i64 c.v.num, .string c.v.str, .slice AL c.v.items.length cL, .slice AO c.v.vals.length cO, .string c.s]] w fun e w' => e = .returned (.tuple #[.string (delS s i n), .int .i64 0]) ∧ Below w.heap.size w w' := by
  have h0 : chkT (nChars s) c.kind.toNat c.i c.n = 0 := by
    unfold chkT
    rw [show c.kind.toNat = 9 by omega, hi, hn]
    simp
    omega
  have HCK := Lib.hid (fun W (hb : Below w.heap.size w W) => ref_CheckT s c A AL AO cp cL cO W hs (hT.below hb (Nat.le_refl _)) (.inr hk))
  rw [h0] at HCK
  have HCU := Lib.hid (fun W (hb : Below w.heap.size w W) => ref_cuts s W hs (hT.below hb (Nat.le_refl _)))
  have hcl := cutS_le s i
  have hcl2 := cutS_le s (i + n)
  have hnl := (nChars_chars s).2
  have hk8 : (c.kind == 8) = false := by simp; omega
  have H0 := Lib.hid (Whole.new w 35 #[.int .u8 c.kind, .slice A c.path.length cp, .string c.key, .int .i64 c.i, .int .i64 c.j, .int .i64 c.n, .int .u8 c.v.kind, .int .i64 c.v.num, .string c.v.str, .slice AL c.v.items.length cL, .slice AO c.v.vals.length cO, .string c.s])
  have HB := Lib.hid (below_alloc w (.cells #[.int .u8 c.kind, .slice A c.path.length cp, .string c.key, .int .i64 c.i, .int .i64 c.j, .int .i64 c.n, .int .u8 c.v.kind, .int .i64 c.v.num, .string c.v.str, .slice AL c.v.items.length cL, .slice AO c.v.vals.length cO, .string c.s] 35))
  rw [hi, hn] at HCK H0 HB ⊢
  show Calls _ _ _ w fun e w' => e = .returned (.tuple #[.string (s.extract 0 (cutS s i) ++ s.extract (cutS s (i + n)) s.size), .int .i64 0]) ∧ Below w.heap.size w w'
  have hsz1 : (s.extract 0 (cutS s i)).size = cutS s i := by simp [ByteArray.size_extract]; omega
  have hsz3 : (s.extract (cutS s (i + n)) s.size).size = s.size - cutS s (i + n) := tail_size s _ hcl2
  have hp1 : ¬ 9223372036854775807 < (s.extract 0 (cutS s i)).size + (s.extract (cutS s (i + n)) s.size).size := by omega
  have HI := Lib.hid hin
  clear hk hi hn h0 hT
  generalize nChars s = m at *
  generalize hf : cutS s i = f at *
  generalize hf' : cutS s (i + n) = f' at *
  have HF := Lib.hid (And.intro hf hf')
  have hf0 : (0 : Int) ≤ (f : Int) := by omega
  have hf1 : (f : Int) ≤ (s.size : Int) := by omega
  have hf2 : (0 : Int) ≤ (f' : Int) := by omega
  have hf3 : (f' : Int) ≤ (s.size : Int) := by omega
  have hi0 : (0 : Int) ≤ (i : Int) := by omega
  have hi1 : (i : Int) < ((m + 1 : Nat) : Int) := by omega
  have hi2 : (0 : Int) ≤ (i : Int) + (n : Int) := by omega
  have hi3 : (i : Int) + (n : Int) < ((m + 1 : Nat) : Int) := by omega
  have hwr : IntKind.i64.wrap ((i : Int) + (n : Int)) = (i : Int) + (n : Int) := IntWalk.i64_in _ (by omega)
  have htn : ((i : Int) + (n : Int)).toNat = i + n := by omega
  clear hf hf' hsz1 hsz3 hin
  go_enter Tryz.func26, Tryz.ntmps26
  go_wp2_with (first
    | (go_at_call 53; refine (HCK.out _ HB.out).mono ?_; rintro e w1 ⟨rfl, hb⟩; have H1 := Lib.hid (And.intro (H0.out.below hb (by simp)) (HB.out.trans (hb.mono (by simp)))); clear hb; obtain ⟨c0, c1, c2, c3, c4, c5, c6, c7, c8, c9, c10, c11, _⟩ := H1.out.1.tw)
    | (go_at_call 54; refine (HCU.out _ H1.out.2).mono ?_; rintro e w2 ⟨b, cap, rfl, _, _, hcut, hb⟩; have H2 := Lib.hid (And.intro (H1.out.1.below hb H1.out.1.lt) (H1.out.2.trans (hb.mono H1.out.2.size))); have q0 := (hcut i (by have := HI.out; omega)); have q1 := (hcut (i + n) HI.out); rw [HF.out.1] at q0; rw [HF.out.2] at q1; clear hcut hb c0 c1 c2 c3 c4 c5 c6 c7 c8 c9 c10 c11; obtain ⟨c0, c1, c2, c3, c4, c5, c6, c7, c8, c9, c10, c11, _⟩ := H2.out.1.tw))
  go_region
  go_wp2
  go_ret2
  exact ⟨rfl, H2.out.2.drew⟩
end Go.Proofs.YtamlaknfakaanaaGreatDoor

