/- Texts in one: HeavyA, HeavyC, HeavyZ. -/
import Derived.Test.YthnljaheplhbkaaDoorOneA
import Derived.Test.YthnljaheplhbkaaDoorBaseG
import Derived.Test.YthnljaheplhbkaaDoorBaseA
import Derived.Test.YthnljaheplhbkaaDoorBaseD
import Derived.Test.YthnljaheplhbkaaDoorBaseR
import Derived.WalkKit
import Derived.WalkSpells
import Derived.WalkLawsBesides
import Derived.Lib.Hide
/- heavy, of acts: a number, a truth, whatever they are. -/
namespace Go.Proofs.YthnljaheplhbkaaDoor
open Go Go.RowKit
set_option linter.unusedVariables false
set_option linter.unusedSimpArgs false

/-- An act, and where its parts lie. -/
structure EAct where
  x : GAct
  P : Option Addr
  pc : Nat
  D : Option Addr
  dc : Nat
def EAct.Ok (w : World) (e : EAct) : Prop := ActOk w e.x e.P e.pc e.D e.dc
/-- Acts in a row. -/
def ActsAt (w : World) (b : Nat) (es : List EAct) : Prop := ∀ i e, es[i]? = some e → w.cell? ⟨b, i * 7, none⟩ = some (.slice e.P e.x.path.length e.pc) ∧ w.cell? ⟨b, i * 7 + 5, none⟩ = some (.string e.x.s) ∧ w.cell? ⟨b, i * 7 + 6, none⟩ = some (.slice e.D e.x.v.length e.dc)
def IntBelow (w : World) (e : Ending) (w' : World) : Prop := ∃ z, e = .returned (.int .i64 z) ∧ Below w.heap.size w w'
def AnyBool (w : World) (e : Ending) (w' : World) : Prop := ∃ b, e = .returned (.bool b) ∧ Below w.heap.size w w'
def HARel (w : World) (m : Nat) (n i : Value) (wr : World) : Prop := ∃ (k : Nat) (z : Int), i = .int .i64 k ∧ n = .int .i64 z ∧ k ≤ m ∧ Below w.heap.size w wr

set_option maxRecDepth 100000 in
set_option maxHeartbeats 4000000 in
theorem Heavy_any (es : List EAct) (b c : Nat) (w : World) (hrow : ActsAt w b es) (hbl : b < w.heap.size) (hok : ∀ e ∈ es, e.Ok w) (hn : es.length ≤ 1000) (hc : es.length ≤ c) : Calls Tryd.prog 17 #[.slice (some ⟨b, 0, none⟩) es.length c] w (IntBelow w) := by
  have HROW := Lib.hid hrow
  have HOK := Lib.hid hok
  clear hrow hok
  generalize hm : es.length = m at *
  have HM := Lib.hid hm
  clear hm
  go_enter Tryd.func17, Tryd.ntmps17
  go_wp2
  go_loopw [3, 4] (HARel w m) (fun _ i _ => m - (intOf i).toNat)
  case atStart => exact ⟨0, 0, rfl, rfl, Nat.zero_le _, Below.refl _ _⟩
  case round =>
    obtain ⟨k, z, rfl, rfl, hk, hB⟩ := hrel
    have HB := Lib.hid hB
    clear hB
    by_cases hlt : k < m
    · have hke : k < es.length := by have := HM.out; omega
      obtain ⟨x0, x5, x6⟩ := HROW.out k es[k] (List.getElem?_eq_getElem hke)
      have hE := HOK.out es[k] (List.getElem_mem hke)
      generalize es[k] = E at *
      obtain ⟨x, P, pc, D, dc⟩ := E
      simp only at x0 x5 x6
      have HE := Lib.hid (show ActOk w x P pc D dc from hE)
      have y0 := (HB.out.cell (p := ⟨b, k * 7, none⟩) hbl).trans x0
      have y5 := (HB.out.cell (p := ⟨b, k * 7 + 5, none⟩) hbl).trans x5
      have hvl : x.v.length ≤ 9223372036854775807 := by have := HE.out.cap.1; have := HE.out.cap.2; unfold maxLen at this; omega
      have hpl : x.path.length ≤ 9223372036854775807 := by have := HE.out.capp.1; have := HE.out.capp.2; unfold maxLen at this; omega
      have X6 := Lib.hid x6
      clear x0 x5 x6 hE hke
      generalize hvn : x.v.length = vn at *
      have HVN := Lib.hid hvn
      clear hvn
      go_wp2_with fail
      go_quiet (fail)
      have HB2 := Lib.hid (HB.out.trans ((below_draws wr nq).mono HB.out.size))
      clear y0 y5
      generalize wr.drewN nq = W1 at *
      go_wp2
      go_loopw [3, 5] (HARel w vn) (fun _ i _ => vn - (intOf i).toNat)
      case atStart => exact ⟨0, _, rfl, rfl, Nat.zero_le _, HB2.out⟩
      case round =>
        obtain ⟨j, y, rfl, rfl, hj, hB3⟩ := hrel
        have HB3 := Lib.hid hB3
        clear hB3
        have y6 := (HB3.out.cell (p := ⟨b, k * 7 + 6, none⟩) hbl).trans X6.out
        by_cases hlt2 : j < vn
        · have hje : j < x.v.length := by have := HVN.out; omega
          obtain ⟨⟨ab, ao, _⟩, rfl, rfl, hl3, hcs⟩ := HE.out.toks (by intro e; simp [e] at hje)
          have hc2 := (hcs j x.v[j] (List.getElem?_eq_getElem hje)).2.2.1
          simp only at hc2 hl3
          have hc3 := (HB3.out.cell (p := ⟨ab, ao + j * 4 + 2, none⟩) hl3).trans hc2
          clear hc2 hcs
          generalize x.v[j].s = sj at *
          go_wp2
          go_roundw
          case rel => exact ⟨j + 1, _, by go_num, rfl, by omega, HB3.out⟩
          case measure => simp [intOf]; omega
        · go_wp2
          go_roundw
          case rel => exact ⟨k + 1, _, by go_num, rfl, by omega, HB3.out⟩
          case measure => simp [intOf]; omega
    · go_wp2
      go_ret
      exact ⟨_, rfl, HB.out⟩

set_option maxRecDepth 100000 in
set_option maxHeartbeats 4000000 in
theorem heavy7_any (hi : Nat) (A : Option Addr) (cap : Nat) (ts : List GTok) (x : GAct) (AP : Option Addr) (ap : Nat) (AD : Option Addr) (ad : Nat) (y : GAct) (BP : Option Addr) (bp : Nat) (BD : Option Addr) (bd : Nat) (w : World) (hT : Toks hi w A ts) (hhi : hi ≤ w.heap.size) (hcap : ts.length ≤ cap) (hm : cap ≤ maxLen) (hx : ActOk w x AP ap AD ad) (hy : ActOk w y BP bp BD bd) :
    Calls Tryd.prog 22 #[.slice A ts.length cap, .agg #[.slice AP x.path.length ap, .int .u8 x.kind, .int .i64 x.i, .int .i64 x.j, .int .i64 x.n, .string x.s, .slice AD x.v.length ad], .agg #[.slice BP y.path.length bp, .int .u8 y.kind, .int .i64 y.i, .int .i64 y.j, .int .i64 y.n, .string y.s, .slice BD y.v.length bd]] w (AnyBool w) := by
  have hB0 : Below w.heap.size w ((w.alloc (.cells #[.slice AP x.path.length ap, .int .u8 x.kind, .int .i64 x.i, .int .i64 x.j, .int .i64 x.n, .string x.s, .slice AD x.v.length ad] 46)).alloc (.cells #[.slice BP y.path.length bp, .int .u8 y.kind, .int .i64 y.i, .int .i64 y.j, .int .i64 y.n, .string y.s, .slice BD y.v.length bd] 46)) := ((Below.refl _ w).alloc (Nat.le_refl _) _).alloc (by simp) _
  have h1 := (Whole.new w 46 #[.slice AP x.path.length ap, .int .u8 x.kind, .int .i64 x.i, .int .i64 x.j, .int .i64 x.n, .string x.s, .slice AD x.v.length ad]).alloc (.cells #[.slice BP y.path.length bp, .int .u8 y.kind, .int .i64 y.i, .int .i64 y.j, .int .i64 y.n, .string y.s, .slice BD y.v.length bd] 46)
  have h2 := Whole.new (w.alloc (.cells #[.slice AP x.path.length ap, .int .u8 x.kind, .int .i64 x.i, .int .i64 x.j, .int .i64 x.n, .string x.s, .slice AD x.v.length ad] 46)) 46 #[.slice BP y.path.length bp, .int .u8 y.kind, .int .i64 y.i, .int .i64 y.j, .int .i64 y.n, .string y.s, .slice BD y.v.length bd]
  rw [World.size_alloc] at h2
  have HB0 := Lib.hid hB0
  have HWX := Lib.hid (And.intro h1 h2)
  have HTS := Lib.hid hT
  have HXY := Lib.hid (And.intro hx hy)
  unfold maxLen at hm
  clear hB0 h1 h2 hT hx hy
  generalize hn : ts.length = n at *
  have HN := Lib.hid hn
  clear hn
  go_enter Tryd.func22, Tryd.ntmps22
  go_wp2
  generalize ((w.alloc (.cells #[.slice AP x.path.length ap, .int .u8 x.kind, .int .i64 x.i, .int .i64 x.j, .int .i64 x.n, .string x.s, .slice AD x.v.length ad] 46)).alloc (.cells #[.slice BP y.path.length bp, .int .u8 y.kind, .int .i64 y.i, .int .i64 y.j, .int .i64 y.n, .string y.s, .slice BD y.v.length bd] 46)) = W0 at *
  go_loopw [7, 8] (fun a i wr => wr = W0 ∧ HARel w n a i wr) (fun _ i _ => n - (intOf i).toNat)
  case atStart => exact ⟨rfl, 0, 0, rfl, rfl, Nat.zero_le _, HB0.out⟩
  case round =>
    obtain ⟨rfl, k, z, rfl, rfl, hk, _⟩ := hrel
    by_cases hlt : k < n
    · have hke : k < ts.length := by have := HN.out; omega
      obtain ⟨⟨ab, ao, _⟩, rfl, rfl, hl3, hcs⟩ := HTS.out (by intro e; simp [e] at hke)
      have hc2 := (hcs k ts[k] (List.getElem?_eq_getElem hke)).2.2.1
      simp only at hc2 hl3
      have hc3 := (HB0.out.cell (p := ⟨ab, ao + k * 4 + 2, none⟩) (by simp only; omega)).trans hc2
      clear hc2 hcs
      generalize ts[k].s = sk at *
      go_wp2
      go_roundw
      case rel => exact ⟨by first | exact trivial | rfl, k + 1, _, by go_num, rfl, by omega, HB0.out⟩
      case measure => simp [intOf]; omega
    · obtain ⟨a0, a1, a2, a3, a4, a5, a6⟩ := act_cells HWX.out.1
      obtain ⟨b0, b1, b2, b3, b4, b5, b6⟩ := act_cells HWX.out.2
      by_cases hz : 2000 < z
      · go_wp2
        go_ret
        exact ⟨_, rfl, HB0.out⟩
      · go_wp2_with (go_at_call 17; refine (Heavy_any [⟨x, AP, ap, AD, ad⟩, ⟨y, BP, bp, BD, bd⟩] wr.heap.size 2 _ (fun i e he => by
          match i, he with
          | 0, he => simp at he; subst he; exact ⟨(Whole.new wr _ _).cell 0, (Whole.new wr _ _).cell 5, (Whole.new wr _ _).cell 6⟩
          | 1, he => simp at he; subst he; exact ⟨(Whole.new wr _ _).cell 7, (Whole.new wr _ _).cell 12, (Whole.new wr _ _).cell 13⟩
          | i + 2, he => simp at he) (by simp) (fun e he => by
          simp only [List.mem_cons, List.mem_nil_iff, or_false] at he
          rcases he with rfl | rfl
          · exact HXY.out.1.later (HB0.out.alloc HB0.out.size _)
          · exact HXY.out.2.later (HB0.out.alloc HB0.out.size _)) (by simp) (by simp)).mono ?_; rintro e w1 ⟨z1, rfl, hb⟩; have H1 := Lib.hid ((HB0.out.alloc HB0.out.size _).trans (hb.mono (by have := HB0.out.size; simp; omega))); clear hb)
        go_ret
        exact ⟨_, rfl, H1.out⟩
end Go.Proofs.YthnljaheplhbkaaDoor

/- heavy, of pieces and a component as it is: what is looked at. -/
namespace Go.Proofs.YthnljaheplhbkaaDoor
open Go Go.RowKit
set_option linter.unusedVariables false
set_option linter.unusedSimpArgs false

/-- A component, as it is: its value in pieces. -/
structure GB where
  kind : Int
  path : List GStep
  key : ByteArray
  i : Int
  j : Int
  n : Int
  s : ByteArray
  v : List GTok

def HeavyC (ts : List GTok) (x : GB) (w : World) (e : Ending) (w' : World) : Prop :=
  ∃ b, e = .returned (.bool b) ∧ Below w.heap.size w w' ∧ (b = false → x.key.size + x.s.size + tot ts + tot x.v ≤ 3000 ∧ x.path.length ≤ 40)

def HeavyRelA (z0 : Nat) (w : World) (ts : List GTok) (n i : Value) (wr : World) : Prop :=
  ∃ (k : Nat) (z : Int), k ≤ ts.length ∧ i = .int .i64 k ∧ n = .int .i64 z ∧ z = (z0 + tot (ts.take k) : Nat) ∧ wr = w

set_option maxRecDepth 100000 in
set_option maxHeartbeats 8000000 in
theorem heavyc_any (hi : Nat) (A : Option Addr) (cap : Nat) (ts : List GTok) (x : GB) (B : Option Addr) (bap : Nat) (D : Option Addr) (dap : Nat) (w : World) (hT : Toks hi w A ts) (hV : Toks hi w D x.v) (hhi : hi ≤ w.heap.size) (hsz : x.key.size + x.s.size + tot ts + tot x.v ≤ 4398046511104) (hl : ts.length ≤ 2000000) (hl2 : x.v.length ≤ 2000000) :
    Calls Tryd.prog 8 #[.slice A ts.length cap, .agg #[.int .u8 x.kind, .slice B x.path.length bap, .string x.key, .int .i64 x.i, .int .i64 x.j, .int .i64 x.n, .string x.s, .slice D x.v.length dap]] w (HeavyC ts x w) := by
  have hb := below_alloc w (.cells #[.int .u8 x.kind, .slice B x.path.length bap, .string x.key, .int .i64 x.i, .int .i64 x.j, .int .i64 x.n, .string x.s, .slice D x.v.length dap] 25)
  have HW := Lib.hid (Whole.new w 25 #[.int .u8 x.kind, .slice B x.path.length bap, .string x.key, .int .i64 x.i, .int .i64 x.j, .int .i64 x.n, .string x.s, .slice D x.v.length dap])
  have HTS := Lib.hid (hT.keep (hb.mono hhi) hhi)
  have HVS := Lib.hid (hV.keep (hb.mono hhi) hhi)
  have HB := Lib.hid hb
  have HSZ := Lib.hid hsz
  clear hT hV hb
  obtain ⟨xk, xp, xy, xi, xj, xn, xs, xv⟩ := x
  simp only at HW HTS HVS HB HSZ hl2 ⊢
  have hky : xy.size ≤ 4398046511104 := by have := HSZ.out; omega
  have hks : xs.size ≤ 4398046511104 := by have := HSZ.out; omega
  generalize hpn : xp.length = pn at *
  go_enter Tryd.func8, Tryd.ntmps8
  go_wp2
  generalize (w.alloc (.cells #[.int .u8 xk, .slice B pn bap, .string xy, .int .i64 xi, .int .i64 xj, .int .i64 xn, .string xs, .slice D xv.length dap] 25)) = W0 at *
  have b1 := (HW.out.cell 1).trans rfl
  have b2 := (HW.out.cell 2).trans rfl
  have b6 := (HW.out.cell 6).trans rfl
  have b7 := (HW.out.cell 7).trans rfl
  go_loopw [5, 6] (HeavyRelA (xy.size + xs.size) W0 ts) (fun _ i _ => ts.length - (intOf i).toNat)
  case atStart => exact ⟨0, _, Nat.zero_le _, rfl, rfl, by simp [tot], rfl⟩
  case round =>
    obtain ⟨k, z, hk, rfl, rfl, hz, rfl⟩ := hrel
    by_cases hlt : k < ts.length
    · obtain ⟨⟨ab, ao, _⟩, rfl, rfl, hl3, hc⟩ := HTS.out (by intro e; simp [e] at hlt)
      have hc2 := (hc k ts[k] (List.getElem?_eq_getElem hlt)).2.2.1
      simp only at hc2
      have HT := Lib.hid (tot_take ts k hlt)
      have hb1 := tot_take_le ts (k + 1)
      rw [tot_take ts k hlt] at hb1
      have hb2 : ts[k].s.size ≤ 4398046511104 := by have := HSZ.out; omega
      have hz1 : 0 ≤ z := by omega
      have hz2 : z ≤ 13194139533312 := by have := HSZ.out; omega
      have HZ := Lib.hid hz
      clear hc hl3 hb1 hz
      generalize ts[k].s = sk at *
      go_wp2
      go_roundw
      case rel => exact ⟨k + 1, _, by omega, by go_num, rfl, by rw [HT.out, HZ.out]; push_cast; omega, rfl⟩
      case measure => simp [intOf]; omega
    · have hk' : k = ts.length := by omega
      have ht : tot (ts.take k) = tot ts := by rw [List.take_of_length_le (by omega)]
      rw [ht] at hz
      have HK := Lib.hid (And.intro hk' ht)
      clear hk' ht
      go_wp2
      go_loopw [5, 7] (HeavyRelA (xy.size + xs.size + tot ts) wr xv) (fun _ i _ => xv.length - (intOf i).toNat)
      case atStart => exact ⟨0, _, Nat.zero_le _, rfl, rfl, by rw [hz]; simp [tot], rfl⟩
      case round =>
        obtain ⟨j, y, hj, rfl, rfl, hy, rfl⟩ := hrel
        by_cases hlt2 : j < xv.length
        · obtain ⟨⟨ab, ao, _⟩, rfl, rfl, hl3, hc⟩ := HVS.out (by intro e; simp [e] at hlt2)
          have hc2 := (hc j xv[j] (List.getElem?_eq_getElem hlt2)).2.2.1
          simp only at hc2
          have HT := Lib.hid (tot_take xv j hlt2)
          have hb1 := tot_take_le xv (j + 1)
          rw [tot_take xv j hlt2] at hb1
          have hb2 : xv[j].s.size ≤ 4398046511104 := by have := HSZ.out; omega
          have hz1 : 0 ≤ y := by omega
          have hz2 : y ≤ 13194139533312 := by have := HSZ.out; omega
          have HZ := Lib.hid hy
          clear hc hl3 hb1 hy
          generalize xv[j].s = sk at *
          go_wp2
          go_roundw
          case rel => exact ⟨j + 1, _, by omega, by go_num, rfl, by rw [HT.out, HZ.out]; push_cast; omega, rfl⟩
          case measure => simp [intOf]; omega
        · have ht2 : tot (xv.take j) = tot xv := by rw [List.take_of_length_le (by omega)]
          rw [ht2] at hy
          have hy2 : y ≤ 4398046511104 := by have := HSZ.out; omega
          have hy3 : 0 ≤ y := by omega
          have HY := Lib.hid hy
          clear hy ht2 hz
          by_cases q3 : 3000 < y
          · have Q3 := Lib.hid q3
            go_wp2
            go_ret
            exact ⟨true, rfl, HB.out, fun h => by cases h⟩
          · have Q3 := Lib.hid q3
            by_cases q4 : 40 < pn
            · have q4' : (40 : Int) < (pn : Int) := by omega
              have Q4 := Lib.hid q4
              clear q4
              go_wp2
              go_ret
              exact ⟨true, by simp, HB.out, fun h => by cases h⟩
            · have q4' : ¬ (40 : Int) < (pn : Int) := by omega
              have Q4 := Lib.hid q4
              clear q4
              go_wp2
              go_ret
              exact ⟨false, by simp, HB.out, fun _ => ⟨by show xy.size + xs.size + tot ts + tot xv ≤ 3000; have h1 := HY.out; have h2 := Q3.out; omega, by show xp.length ≤ 40; rw [hpn]; have := Q4.out; omega⟩⟩
end Go.Proofs.YthnljaheplhbkaaDoor

/- heavy, of pieces and a component that says nothing: a truth, whatever they are. -/
namespace Go.Proofs.YthnljaheplhbkaaDoor
open Go Go.RowKit
set_option linter.unusedVariables false
set_option linter.unusedSimpArgs false

set_option maxRecDepth 100000 in
set_option maxHeartbeats 4000000 in
theorem heavyz_any (hi : Nat) (A : Option Addr) (cap : Nat) (ts : List GTok) (w : World) (hT : Toks hi w A ts) (hhi : hi ≤ w.heap.size) (hcap : ts.length ≤ cap) (hm : cap ≤ maxLen) :
    Calls Tryd.prog 8 #[.slice A ts.length cap, .agg #[.int .u8 0, .slice none 0 0, .string ⟨#[]⟩, .int .i64 0, .int .i64 0, .int .i64 0, .string ⟨#[]⟩, .slice none 0 0]] w (AnyBool w) := by
  have HB0 := Lib.hid (below_alloc w (.cells #[.int .u8 0, .slice none 0 0, .string ⟨#[]⟩, .int .i64 0, .int .i64 0, .int .i64 0, .string ⟨#[]⟩, .slice none 0 0] 25))
  have HW := Lib.hid (Whole.new w 25 #[.int .u8 0, .slice none 0 0, .string ⟨#[]⟩, .int .i64 0, .int .i64 0, .int .i64 0, .string ⟨#[]⟩, .slice none 0 0])
  have HTS := Lib.hid hT
  unfold maxLen at hm
  clear hT
  generalize hn : ts.length = n at *
  have HN := Lib.hid hn
  clear hn
  go_enter Tryd.func8, Tryd.ntmps8
  go_wp2
  generalize (w.alloc (.cells #[.int .u8 0, .slice none 0 0, .string ⟨#[]⟩, .int .i64 0, .int .i64 0, .int .i64 0, .string ⟨#[]⟩, .slice none 0 0] 25)) = W0 at *
  have b1 := (HW.out.cell 1).trans rfl
  have b7 := (HW.out.cell 7).trans rfl
  go_loopw [5, 6] (fun a i wr => wr = W0 ∧ HARel w n a i wr) (fun _ i _ => n - (intOf i).toNat)
  case atStart => exact ⟨rfl, 0, _, rfl, rfl, Nat.zero_le _, HB0.out⟩
  case round =>
    obtain ⟨rfl, k, z, rfl, rfl, hk, _⟩ := hrel
    by_cases hlt : k < n
    · have hke : k < ts.length := by have := HN.out; omega
      obtain ⟨⟨ab, ao, _⟩, rfl, rfl, hl3, hcs⟩ := HTS.out (by intro e; simp [e] at hke)
      have hc2 := (hcs k ts[k] (List.getElem?_eq_getElem hke)).2.2.1
      simp only at hc2 hl3
      have hc3 := (HB0.out.cell (p := ⟨ab, ao + k * 4 + 2, none⟩) (by simp only; omega)).trans hc2
      clear hc2 hcs
      generalize ts[k].s = sk at *
      go_wp2
      go_roundw
      case rel => exact ⟨by first | exact trivial | rfl, k + 1, _, by go_num, rfl, by omega, HB0.out⟩
      case measure => simp [intOf]; omega
    · go_wp2
      go_loopw [5, 7] (fun a i W => W = wr ∧ ∃ y : Int, i = .int .i64 0 ∧ a = .int .i64 y) (fun _ i _ => 0)
      case atStart => exact ⟨rfl, _, rfl, rfl⟩
      case round =>
        obtain ⟨rfl, y, rfl, rfl⟩ := hrel
        by_cases hy : 3000 < y
        · go_wp2
          go_ret
          exact ⟨_, rfl, HB0.out⟩
        · go_wp2
          go_ret
          exact ⟨_, rfl, HB0.out⟩
end Go.Proofs.YthnljaheplhbkaaDoor
