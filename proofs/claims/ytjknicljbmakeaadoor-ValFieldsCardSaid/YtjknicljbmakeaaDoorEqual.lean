/- sameKey, and whether two objects' keys are the same one by one. -/
import Derived.Test.YtjknicljbmakeaaDoorRows2
import Derived.WalkKit
import Derived.WalkSpells
import Derived.WalkLawsBesides
import Derived.Lib.Hide
import Derived.IntWalk
namespace Go.Proofs.YtjknicljbmakeaaDoor
open Go Go.RowKit

theorem same_key (k1 k2 : ByteArray) (a1 a2 a3 b1 b2 b3 : Value) (A1 A2 B1 B2 : Option Addr) (n1 c1 n2 c2 m1 d1 m2 d2 : Nat) (w : World) :
    Calls Tryd.prog 61 #[.agg #[.string k1, a1, a2, a3, .slice A1 n1 c1, .slice A2 n2 c2], .agg #[.string k2, b1, b2, b3, .slice B1 m1 d1, .slice B2 m2 d2]] w fun e w' => e = .returned (.bool (k1.toList == k2.toList)) ∧ Below w.heap.size w w' := by
  go_enter Tryd.func61, Tryd.ntmps61
  go_wp2
  go_ret
  exact ⟨rfl, ((Below.refl _ _).alloc (Nat.le_refl _) _).alloc (by simp) _⟩

/-- A field's six cells. -/
structure SixAt (W : World) (b off : Nat) (k : ByteArray) (kd nm : Int) (st : ByteArray) (A1 A2 : Option Addr) (n1 d1 n2 d2 : Nat) : Prop where
  c0 : W.cell? ⟨b, off, none⟩ = some (.string k)
  c1 : W.cell? ⟨b, off + 1, none⟩ = some (.int .u8 kd)
  c2 : W.cell? ⟨b, off + 2, none⟩ = some (.int .i64 nm)
  c3 : W.cell? ⟨b, off + 3, none⟩ = some (.string st)
  c4 : W.cell? ⟨b, off + 4, none⟩ = some (.slice A1 n1 d1)
  c5 : W.cell? ⟨b, off + 5, none⟩ = some (.slice A2 n2 d2)
theorem six_at {ok : Nat → Prop} {W : World} {b o : Nat} {ks : List ByteArray} {ov : List GV} {k : Nat} (hks : KeysAt W b o ks) (hel : GV.els ok W b 6 (o + 1) ov) (hk : k < ks.length) (hv : k < ov.length) :
    ∃ kd nm st A1 A2 n1 c1 n2 c2, SixAt W b (o + k * 6) ks[k] kd nm st A1 A2 n1 c1 n2 c2 := by
  have h := GV.els_get hel (List.getElem?_eq_getElem hv)
  rw [show o + 1 + k * 6 = o + k * 6 + 1 by omega] at h
  obtain ⟨L, O, h0, h1, h2, h3, h4, hL, hO⟩ := GV.at_iff.1 h
  obtain ⟨A1, c1, rfl⟩ := lst_form hL
  obtain ⟨A2, c2, rfl⟩ := obj_form hO
  exact ⟨_, _, _, _, _, _, _, _, _, hks.get (List.getElem?_eq_getElem hk), h0, h1, h2, h3, h4⟩
theorem SixAt.below {W W' : World} {b off B : Nat} {k : ByteArray} {kd nm : Int} {st : ByteArray} {A1 A2 : Option Addr} {n1 c1 n2 c2 : Nat} (h : SixAt W b off k kd nm st A1 A2 n1 c1 n2 c2) (hb : Below B W W') (hB : b < B) : SixAt W' b off k kd nm st A1 A2 n1 c1 n2 c2 := by
  have e : ∀ j, W'.cell? ⟨b, j, none⟩ = W.cell? ⟨b, j, none⟩ := fun j => hb.cell (p := ⟨b, j, none⟩) hB
  exact ⟨(e _).trans h.c0, (e _).trans h.c1, (e _).trans h.c2, (e _).trans h.c3, (e _).trans h.c4, (e _).trans h.c5⟩

/-- The same bytes, one by one. -/
def letters (ks : List ByteArray) : List (List UInt8) := ks.map (·.toList)
def EqRel (w : World) (ks kt : List ByteArray) (i : Value) (wr : World) : Prop := ∃ k : Nat, i = .int .i64 k ∧ k ≤ ks.length ∧ letters (ks.take k) = letters (kt.take k) ∧ Below w.heap.size w wr
def EqPost (P : Prop) (w : World) (e : Ending) (w' : World) : Prop := ∃ b : Bool, e = .returned (.bool b) ∧ (b = true ↔ P) ∧ Below w.heap.size w w'

set_option maxHeartbeats 4000000 in
theorem equal_func (ok : Nat → Prop) (O O' : Value) (ks kt : List ByteArray) (ov ow : List GV) (w : World) (hO : ObjV ok w O ks ov) (hO' : ObjV ok w O' kt ow) :
    Calls Tryd.prog 60 #[O, O', .func (.func 61) #[] #[]] w (EqPost (letters ks = letters kt) w) := by
  have hkl := hO.1
  have hkl' := hO'.1
  obtain ⟨A, c, rfl, hc1, hc2, hf⟩ := hO.form
  obtain ⟨A', c', rfl, hc1', hc2', hf'⟩ := hO'.form
  clear hO hO'
  unfold maxLen at hc2 hc2'
  have HL := Lib.hid hkl
  have HL' := Lib.hid hkl'
  have HF := Lib.hid hf
  have HF' := Lib.hid hf'
  clear hkl hkl' hf hf'
  by_cases hlen : ov.length = ow.length
  · have hz : (((ov.length : Int)) != (ow.length : Int)) = false := by simp [hlen]
    have HLen := Lib.hid hlen
    clear hlen
    go_enter Tryd.func60, Tryd.ntmps60
    go_wp2
    go_loopw [17] (EqRel w ks kt) (fun i _ => ov.length - (intOf i).toNat)
    case atStart => exact ⟨0, rfl, Nat.zero_le _, by simp, Below.refl _ _⟩
    case round =>
      obtain ⟨k, rfl, hk, heq, hB⟩ := hrel
      have HEQ := Lib.hid heq
      clear heq
      by_cases hlt : k < ks.length
      · have h1 : k < ov.length := by have := HL.out; omega
        have h2 : k < ow.length := by have := HLen.out; omega
        have h3 : k < kt.length := by have := HL'.out; omega
        obtain ⟨b, o, rfl, hK, hks, hel⟩ := HF.out (by intro e; rw [e] at h1; simp at h1)
        obtain ⟨b', o', rfl, hK', hks', hel'⟩ := HF'.out (by intro e; rw [e] at h2; simp at h2)
        obtain ⟨kd, nm, st, A1, A2, n1, d1, n2, d2, hs⟩ := six_at hks hel hlt h1
        obtain ⟨kd', nm', st', A1', A2', n1', d1', n2', d2', hs'⟩ := six_at hks' hel' h3 h2
        have hs1 := hs.below hB hK.lt
        have hs2 := hs'.below hB hK'.lt
        have c0 := hs1.c0
        have c1 := hs1.c1
        have c2 := hs1.c2
        have c3 := hs1.c3
        have c4 := hs1.c4
        have c5 := hs1.c5
        have g0 := fun (o : Obj) => cell_alloc o hs2.c0
        have g1 := fun (o : Obj) => cell_alloc o hs2.c1
        have g2 := fun (o : Obj) => cell_alloc o hs2.c2
        have g3 := fun (o : Obj) => cell_alloc o hs2.c3
        have g4 := fun (o : Obj) => cell_alloc o hs2.c4
        have g5 := fun (o : Obj) => cell_alloc o hs2.c5
        have HG := Lib.hid (List.getElem?_eq_getElem hlt)
        have HG' := Lib.hid (List.getElem?_eq_getElem h3)
        have HTK : Hid (ks.take (k + 1) = ks.take k ++ [ks[k]] ∧ kt.take (k + 1) = kt.take k ++ [kt[k]]) := ⟨List.take_succ_eq_append_getElem hlt, List.take_succ_eq_append_getElem h3⟩
        clear hs hs' hs1 hs2 hks hel hks' hel' hK hK'
        generalize ks[k] = x at *
        generalize kt[k] = y at *
        have hbnd : ∀ (X Y : Obj) (W1 : World), Below ((wr.alloc X).alloc Y).heap.size ((wr.alloc X).alloc Y) W1 → Below w.heap.size w W1 := fun X Y W1 h =>
          ((hB.alloc hB.size _).alloc (by have := hB.size; simp; omega) _).trans (h.mono (by have := hB.size; simp; omega))
        have HBN := Lib.hid hbnd
        clear hbnd
        by_cases hxy : x.toList = y.toList
        · have hbe : (x.toList == y.toList) = true := by simp [hxy]
          have HXY := Lib.hid hxy
          clear hxy
          go_wp2_with (go_at_call 61; refine (same_key _ _ _ _ _ _ _ _ _ _ _ _ _ _ _ _ _ _ _ _ _).mono ?_; rintro e W1 ⟨rfl, hb1⟩)
          go_roundw
          case rel => exact ⟨k + 1, by go_num, by omega, by
            rw [HTK.out.1, HTK.out.2]
            have h1 := HEQ.out
            unfold letters at h1 ⊢
            rw [List.map_append, List.map_append, h1]
            simp [HXY.out], HBN.out _ _ _ hb1⟩
          case measure => simp [intOf]; omega
        · have hbe : (x.toList == y.toList) = false := by simpa using hxy
          have HXY := Lib.hid hxy
          clear hxy
          go_wp2_with (go_at_call 61; refine (same_key _ _ _ _ _ _ _ _ _ _ _ _ _ _ _ _ _ _ _ _ _).mono ?_; rintro e W1 ⟨rfl, hb1⟩)
          go_ret
          refine ⟨false, rfl, ⟨(fun h => by cases h), fun h => ?_⟩, HBN.out _ _ _ hb1⟩
          have h1 := congrArg (fun l => l[k]?) h
          simp only [letters, List.getElem?_map, HG.out, HG'.out, Option.map_some, Option.some.injEq] at h1
          exact absurd h1 HXY.out
      · have hke : k = ks.length := by omega
        have hnl : ¬ k < ov.length := by have := HL.out; omega
        have HKE := Lib.hid hke
        clear hke
        go_wp2
        go_ret
        refine ⟨true, rfl, ⟨fun _ => ?_, fun _ => rfl⟩, hB⟩
        have h1 := HEQ.out
        have h2 := HKE.out
        have h3 := HL.out
        have h4 := HL'.out
        have h5 := HLen.out
        rw [h2, List.take_length, List.take_of_length_le (by omega)] at h1
        exact h1
  · have hz : (((ov.length : Int)) != (ow.length : Int)) = true := by simp; omega
    have HLen := Lib.hid hlen
    clear hlen
    go_enter Tryd.func60, Tryd.ntmps60
    go_wp2
    go_ret
    refine ⟨false, rfl, ⟨(fun h => by cases h), fun h => ?_⟩, Below.refl _ _⟩
    have h1 := congrArg List.length h
    simp only [letters, List.length_map] at h1
    have h3 := HL.out
    have h4 := HL'.out
    exact absurd (by omega) HLen.out
end Go.Proofs.YtjknicljbmakeaaDoor
