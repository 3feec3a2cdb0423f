/- Begins: the program's, and the document's own. -/
import Derived.Test.YthnljaheplhbkaaDoorPSound
import Derived.Laws.StructEq
import Derived.BigQuiet
import Derived.Deep.QuietTactic
namespace Go.Proofs.YthnljaheplhbkaaDoor
open Go Go.RowKit

instance : Inhabited GStep := ⟨⟨false, 0, ⟨#[]⟩⟩⟩
def encG (x : GStep) : List Value := [.bool x.list, .int .i64 x.i, .string x.key]
/-- Two steps are the same. -/
def sameStep (x y : GStep) : Bool := x.list == y.list && (x.i == y.i && x.key.toList == y.key.toList)
/-- A path begins with another one. -/
def begins (p q : List GStep) : Bool := decide (q.length ≤ p.length) && Lib.allEq sameStep (p.take q.length) q

theorem neq_step : NeqAt Tryd.prog 71 (fun x : GStep => .agg (encG x).toArray) sameStep := by
  refine ⟨fun x y w => ?_, GuardAt.agg _ (by kernel_rfl)⟩
  have u3 := Tryd.underlying3
  have a3 := Tryd.isAgg3
  have z3 := Tryd.sizeOf3
  have u4 := Tryd.underlying4
  have a4 := Tryd.isAgg4
  have z4 := Tryd.sizeOf4
  have u9 := Tryd.underlying9
  have a9 := Tryd.isAgg9
  have z9 := Tryd.sizeOf9
  have hS : Tryd.prog.underlying 71 = some (.struct (Tryd.prog.fieldsOf 71)) := by kernel_rfl
  have hp : Tryd.prog.stoodInHeld 71 = false := by kernel_rfl
  simp only [encG, sameStep]
  rw [run_neq_struct, show (10000 : Nat) = 9999 + 1 from rfl, run_equalIn_agg w 9999 71 _ _ hS hp]
  simp only [Program.fieldsOf, Tryd.underlying71]
  go_simp
  by_cases h1 : x.list = y.list <;> by_cases h2 : x.i = y.i <;> by_cases h3 : x.key.toList = y.key.toList <;> simp [h1, h2, h3]

theorem cellsG {ps : List GStep} {W : World} {b o : Nat} (hP : StepsAt W ⟨b, o, none⟩ ps) : ∀ j, j < ps.length → ∀ i v, (encG ps[j]!)[i]? = some v → W.cell? ⟨b, o + j * 3 + i, none⟩ = some v := fun j hj i v hv => by
  obtain ⟨h0, h1, h2⟩ := hP j ps[j] (List.getElem?_eq_getElem hj)
  rw [getElem!_pos ps j hj] at hv
  unfold encG at hv
  match i with
  | 0 => simp at hv; subst hv; exact h0
  | 1 => simp at hv; subst hv; exact h1
  | 2 => simp at hv; subst hv; exact h2
  | i + 3 => simp at hv

theorem equal_none (A B : Option Addr) (c d : Nat) (w : World) : Calls Tryd.prog 83 #[.slice A 0 c, .slice B 0 d] w fun e w' => e = .returned (.bool true) ∧ w' = w := by
  go_enter Tryd.func83, Tryd.ntmps83
  go_wp2
  go_loopw [13] (fun i wr => i = .int .i64 0 ∧ wr = w) (fun _ _ => 0)
  case atStart => exact ⟨rfl, rfl⟩
  case round =>
    obtain ⟨rfl, rfl⟩ := hrel
    go_wp2
    go_ret
    exact ⟨rfl, rfl⟩

set_option maxHeartbeats 2000000 in
theorem path_Begins (hi : Nat) (A B : Option Addr) (c d : Nat) (ps qs : List GStep) (w : World) (hP : Steps hi w A ps) (hQ : Steps hi w B qs) (hc : ps.length ≤ c) (_hm : c ≤ maxLen) (hm2 : qs.length ≤ maxLen) :
    Calls Tryd.prog 45 #[.slice A ps.length c, .slice B qs.length d] w fun e w' => e = .returned (.bool (begins ps qs)) ∧ Below w.heap.size w w' := by
  unfold maxLen at _hm hm2
  by_cases hle : qs.length ≤ ps.length
  · have hcall : Calls Tryd.prog 83 #[.slice A qs.length c, .slice B qs.length d] w fun e w' => e = .returned (.bool (begins ps qs)) ∧ Below w.heap.size w w' := by
      by_cases hq : qs = []
      · subst hq
        refine (equal_none A B c d w).mono fun e w' ⟨he, hw⟩ => ⟨?_, by rw [hw]; exact Below.refl _ _⟩
        rw [he]; simp [begins, Lib.allEq]
      · have hp : ps ≠ [] := by intro e; rw [e] at hle; apply hq; exact List.length_eq_zero_iff.1 (by simpa using hle)
        obtain ⟨⟨pb, po, sp⟩, rfl, hs, _, hpc⟩ := hP hp
        obtain ⟨⟨qb, qo, sp'⟩, rfl, hs', _, hqc⟩ := hQ hq
        simp only at hs hs'
        subst hs hs'
        have h := AnyQ.slices_Equal Tryd.equalS 3 Tryd.isAgg71 Tryd.sizeOf71 encG (fun _ => rfl) sameStep neq_step pb po qs.length c qb qo qs.length d ps qs w hle (Nat.le_refl _) (by omega) (by omega) (cellsG hpc) (cellsG hqc)
        refine Calls.mono h fun e w' ⟨he, q, hw⟩ => ⟨?_, ?_⟩
        · rw [he]; simp [begins, hle]
        · rw [hw]; exact ⟨rfl, rfl, rfl, Nat.le_refl _, fun _ _ => rfl⟩
    have HC := Lib.hid hcall
    clear hcall hP hQ
    generalize begins ps qs = r at *
    generalize ps.length = n at *
    generalize qs.length = m at *
    go_enter Tryd.func45, Tryd.ntmps45
    go_wp2_with (go_at_call 83; refine HC.out.mono ?_; rintro e w1 ⟨rfl, hb1⟩; have HB1 := Lib.hid hb1; clear hb1)
    go_ret
    exact ⟨by simp, HB1.out⟩
  · have hb : begins ps qs = false := by simp [begins, hle]
    rw [hb]
    clear hb hP hQ
    generalize ps.length = n at *
    generalize qs.length = m at *
    go_enter Tryd.func45, Tryd.ntmps45
    go_wp2
    go_ret
    exact ⟨by simp, Below.refl _ _⟩

def BegRel (w : World) (ps qs : List GStep) (i : Value) (wr : World) : Prop := ∃ k : Nat, i = .int .i64 k ∧ k ≤ qs.length ∧ (∀ j, j < k → sameStep ps[j]! qs[j]! = true) ∧ Below w.heap.size w wr

set_option maxHeartbeats 4000000 in
theorem ref_Begins (hi : Nat) (A B : Option Addr) (c d : Nat) (ps qs : List GStep) (w : World) (hP : Steps hi w A ps) (hQ : Steps hi w B qs) (hhi : hi ≤ w.heap.size) (hm : ps.length ≤ maxLen) (_hm2 : qs.length ≤ maxLen) :
    Calls Tryd.prog 20 #[.slice A ps.length c, .slice B qs.length d] w fun e w' => e = .returned (.bool (begins ps qs)) ∧ Below w.heap.size w w' := by
  unfold maxLen at hm _hm2
  by_cases hle : qs.length ≤ ps.length
  · have HP := Lib.hid hP
    have HQ := Lib.hid hQ
    clear hP hQ
    go_enter Tryd.func20, Tryd.ntmps20
    go_wp2
    go_loopw [5] (BegRel w ps qs) (fun i _ => qs.length - (intOf i).toNat)
    case atStart => exact ⟨0, rfl, Nat.zero_le _, fun j hj => absurd hj (Nat.not_lt_zero _), Below.refl _ _⟩
    case round =>
      obtain ⟨k, rfl, hk, hall, hB⟩ := hrel
      by_cases hlt : k < qs.length
      · have hlp : k < ps.length := by omega
        obtain ⟨qb, qo, rfl, _, q0, q1, q2⟩ := (HQ.out.keep (hB.mono hhi) (Nat.le_refl _)).one hlt
        obtain ⟨pb, po, rfl, _, p0, p1, p2⟩ := (HP.out.keep (hB.mono hhi) (Nat.le_refl _)).one hlp
        have hne := neq_step.1 ps[k] qs[k]
        have hgd := neq_step.2
        simp only [encG] at hne
        have hyes : sameStep ps[k] qs[k] = true → ∀ j, j < k + 1 → sameStep ps[j]! qs[j]! = true := fun h j hj => by
          by_cases e : j = k
          · subst e; rw [getElem!_pos ps j hlp, getElem!_pos qs j hlt]; exact h
          · exact hall j (by omega)
        have hno : sameStep ps[k] qs[k] = false → begins ps qs = false := fun h => by
          have hf : (Lib.allEq sameStep (ps.take qs.length) qs) = false := Lib.allEq_elem sameStep (ps.take qs.length) qs k (by rw [List.length_take]; omega) hlt (by rw [Lib.getElem!_take' _ _ _ hlt, getElem!_pos ps k hlp, getElem!_pos qs k hlt]; exact h)
          simp [begins, hf]
        have HY := Lib.hid hyes
        have HN := Lib.hid hno
        have HB := Lib.hid hB
        clear hyes hno hB hall hgd
        generalize ps[k] = x at *
        generalize qs[k] = y at *
        cases hs : sameStep x y with
        | true =>
          rw [hs] at hne
          have HS := Lib.hid hs
          clear hs
          go_wp2_with fail
          go_quiet (fail)
          go_wp2
          go_roundw
          case rel => exact ⟨k + 1, by go_num, by omega, HY.out HS.out, HB.out.trans ⟨rfl, rfl, rfl, Nat.le_refl _, fun _ _ => rfl⟩⟩
          case measure => simp [intOf]; omega
        | false =>
          rw [hs] at hne
          have HS := Lib.hid hs
          clear hs
          go_wp2_with fail
          go_quiet (fail)
          go_wp2
          go_ret
          exact ⟨by rw [HN.out HS.out] <;> rfl, HB.out.trans ⟨rfl, rfl, rfl, Nat.le_refl _, fun _ _ => rfl⟩⟩
      · have hk' : k = qs.length := by omega
        have hb : begins ps qs = true := by
          have : Lib.allEq sameStep (ps.take qs.length) qs = true := Lib.allEq_all sameStep _ _ (by rw [List.length_take]; omega) (fun j hj => by rw [List.length_take] at hj; rw [Lib.getElem!_take' _ _ _ (by omega)]; exact hall j (by omega))
          simp [begins, hle, this]
        have HB := Lib.hid hB
        have HBE := Lib.hid hb
        clear hb hB hall
        go_wp2
        go_ret
        exact ⟨by rw [HBE.out] <;> rfl, HB.out⟩
  · have hb : begins ps qs = false := by simp [begins, hle]
    rw [hb]
    clear hb hP hQ
    generalize ps.length = n at *
    generalize qs.length = m at *
    go_enter Tryd.func20, Tryd.ntmps20
    go_wp2
    go_ret
    exact ⟨rfl, Below.refl _ _⟩
end Go.Proofs.YthnljaheplhbkaaDoor
