/- heavy, of pieces and a component as it is: what is looked at. -/
import Derived.Test.YtmdiiejhamameaaDoorBaseG
import Derived.Test.YtmdiiejhamameaaDoorBaseA
import Derived.Test.YtmdiiejhamameaaDoorBaseD
import Derived.Test.YtmdiiejhamameaaDoorBaseR
import Derived.WalkKit
import Derived.WalkSpells
import Derived.WalkLawsBesides
import Derived.Lib.Hide
namespace Go.Proofs.YtmdiiejhamameaaDoor
open Go Go.RowKit
set_option linter.unusedVariables false
set_option linter.unusedSimpArgs false

/-- A component, as it is: its value in pieces. -/
structure GB where
  kind : Int
  path : List GStep
  key : ByteArray
  i : Int
  j : Int
  n : Int
  s : ByteArray
  v : List GTok

def HeavyC (ts : List GTok) (x : GB) (w : World) (e : Ending) (w' : World) : Prop :=
  ∃ b, e = .returned (.bool b) ∧ Below w.heap.size w w' ∧ (b = false → x.key.size + x.s.size + tot ts + tot x.v ≤ 3000 ∧ x.path.length ≤ 40)

def HeavyRelA (z0 : Nat) (w : World) (ts : List GTok) (n i : Value) (wr : World) : Prop :=
  ∃ (k : Nat) (z : Int), k ≤ ts.length ∧ i = .int .i64 k ∧ n = .int .i64 z ∧ z = (z0 + tot (ts.take k) : Nat) ∧ wr = w

set_option maxRecDepth 100000 in
set_option maxHeartbeats 8000000 in
theorem heavyc_any (hi : Nat) (A : Option Addr) (cap : Nat) (ts : List GTok) (x : GB) (B : Option Addr) (bap : Nat) (D : Option Addr) (dap : Nat) (w : World) (hT : Toks hi w A ts) (hV : Toks hi w D x.v) (hhi : hi ≤ w.heap.size) (hsz : x.key.size + x.s.size + tot ts + tot x.v ≤ 4398046511104) (hl : ts.length ≤ 2000000) (hl2 : x.v.length ≤ 2000000) :
    Calls Tryd.prog 7 #[.slice A ts.length cap, .agg #[.int .u8 x.kind, .slice B x.path.length bap, .string x.key, .int .i64 x.i, .int .i64 x.j, .int .i64 x.n, .string x.s, .slice D x.v.length dap]] w (HeavyC ts x w) := by
  have hb := below_alloc w (.cells #[.int .u8 x.kind, .slice B x.path.length bap, .string x.key, .int .i64 x.i, .int .i64 x.j, .int .i64 x.n, .string x.s, .slice D x.v.length dap] 25)
  have HW := Lib.hid (Whole.new w 25 #[.int .u8 x.kind, .slice B x.path.length bap, .string x.key, .int .i64 x.i, .int .i64 x.j, .int .i64 x.n, .string x.s, .slice D x.v.length dap])
  have HTS := Lib.hid (hT.keep (hb.mono hhi) hhi)
  have HVS := Lib.hid (hV.keep (hb.mono hhi) hhi)
  have HB := Lib.hid hb
  have HSZ := Lib.hid hsz
  clear hT hV hb
  obtain ⟨xk, xp, xy, xi, xj, xn, xs, xv⟩ := x
  simp only at HW HTS HVS HB HSZ hl2 ⊢
  have hky : xy.size ≤ 4398046511104 := by have := HSZ.out; omega
  have hks : xs.size ≤ 4398046511104 := by have := HSZ.out; omega
  generalize hpn : xp.length = pn at *
  go_enter Tryd.func7, Tryd.ntmps7
  go_wp2
  generalize (w.alloc (.cells #[.int .u8 xk, .slice B pn bap, .string xy, .int .i64 xi, .int .i64 xj, .int .i64 xn, .string xs, .slice D xv.length dap] 25)) = W0 at *
  have b1 := (HW.out.cell 1).trans rfl
  have b2 := (HW.out.cell 2).trans rfl
  have b6 := (HW.out.cell 6).trans rfl
  have b7 := (HW.out.cell 7).trans rfl
  go_loopw [5, 6] (HeavyRelA (xy.size + xs.size) W0 ts) (fun _ i _ => ts.length - (intOf i).toNat)
  case atStart => exact ⟨0, _, Nat.zero_le _, rfl, rfl, by simp [tot], rfl⟩
  case round =>
    obtain ⟨k, z, hk, rfl, rfl, hz, rfl⟩ := hrel
    by_cases hlt : k < ts.length
    · obtain ⟨⟨ab, ao, _⟩, rfl, rfl, hl3, hc⟩ := HTS.out (by intro e; simp [e] at hlt)
      have hc2 := (hc k ts[k] (List.getElem?_eq_getElem hlt)).2.2.1
      simp only at hc2
      have HT := Lib.hid (tot_take ts k hlt)
      have hb1 := tot_take_le ts (k + 1)
      rw [tot_take ts k hlt] at hb1
      have hb2 : ts[k].s.size ≤ 4398046511104 := by have := HSZ.out; omega
      have hz1 : 0 ≤ z := by omega
      have hz2 : z ≤ 13194139533312 := by have := HSZ.out; omega
      have HZ := Lib.hid hz
      clear hc hl3 hb1 hz
      generalize ts[k].s = sk at *
      go_wp2
      go_roundw
      case rel => exact ⟨k + 1, _, by omega, by go_num, rfl, by rw [HT.out, HZ.out]; push_cast; omega, rfl⟩
      case measure => simp [intOf]; omega
    · have hk' : k = ts.length := by omega
      have ht : tot (ts.take k) = tot ts := by rw [List.take_of_length_le (by omega)]
      rw [ht] at hz
      have HK := Lib.hid (And.intro hk' ht)
      clear hk' ht
      go_wp2
      go_loopw [5, 7] (HeavyRelA (xy.size + xs.size + tot ts) wr xv) (fun _ i _ => xv.length - (intOf i).toNat)
      case atStart => exact ⟨0, _, Nat.zero_le _, rfl, rfl, by rw [hz]; simp [tot], rfl⟩
      case round =>
        obtain ⟨j, y, hj, rfl, rfl, hy, rfl⟩ := hrel
        by_cases hlt2 : j < xv.length
        · obtain ⟨⟨ab, ao, _⟩, rfl, rfl, hl3, hc⟩ := HVS.out (by intro e; simp [e] at hlt2)
          have hc2 := (hc j xv[j] (List.getElem?_eq_getElem hlt2)).2.2.1
          simp only at hc2
          have HT := Lib.hid (tot_take xv j hlt2)
          have hb1 := tot_take_le xv (j + 1)
          rw [tot_take xv j hlt2] at hb1
          have hb2 : xv[j].s.size ≤ 4398046511104 := by have := HSZ.out; omega
          have hz1 : 0 ≤ y := by omega
          have hz2 : y ≤ 13194139533312 := by have := HSZ.out; omega
          have HZ := Lib.hid hy
          clear hc hl3 hb1 hy
          generalize xv[j].s = sk at *
          go_wp2
          go_roundw
          case rel => exact ⟨j + 1, _, by omega, by go_num, rfl, by rw [HT.out, HZ.out]; push_cast; omega, rfl⟩
          case measure => simp [intOf]; omega
        · have ht2 : tot (xv.take j) = tot xv := by rw [List.take_of_length_le (by omega)]
          rw [ht2] at hy
          have hy2 : y ≤ 4398046511104 := by have := HSZ.out; omega
          have hy3 : 0 ≤ y := by omega
          have HY := Lib.hid hy
          clear hy ht2 hz
          by_cases q3 : 3000 < y
          · have Q3 := Lib.hid q3
            go_wp2
            go_ret
            exact ⟨true, rfl, HB.out, fun h => by cases h⟩
          · have Q3 := Lib.hid q3
            by_cases q4 : 40 < pn
            · have q4' : (40 : Int) < (pn : Int) := by omega
              have Q4 := Lib.hid q4
              clear q4
              go_wp2
              go_ret
              exact ⟨true, by simp, HB.out, fun h => by cases h⟩
            · have q4' : ¬ (40 : Int) < (pn : Int) := by omega
              have Q4 := Lib.hid q4
              clear q4
              go_wp2
              go_ret
              exact ⟨false, by simp, HB.out, fun _ => ⟨by show xy.size + xs.size + tot ts + tot xv ≤ 3000; have h1 := HY.out; have h2 := Q3.out; omega, by show xp.length ≤ 40; rw [hpn]; have := Q4.out; omega⟩⟩
end Go.Proofs.YtmdiiejhamameaaDoor
