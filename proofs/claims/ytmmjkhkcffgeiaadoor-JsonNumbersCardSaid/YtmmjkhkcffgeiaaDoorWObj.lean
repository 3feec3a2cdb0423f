/- json's writer: objects; a value of any kind. -/
import Derived.Test.YtmmjkhkcffgeiaaDoorWValue
namespace Go.Proofs.YtmmjkhkcffgeiaaDoor
open Go Go.RowKit Go.Shelf

/-- What has been written of an object. -/
def ObjRel (B b : Nat) (bs : List Value) (ks : List ByteArray) (l : List GV) (W : World) (i : Value) (wr : World) : Prop :=
  ∃ k : Nat, i = .int .i64 k ∧ k ≤ l.length ∧ BldAt B b (bs ++ Lib.byteCells (123 :: GV.encFs true (ks.take k) (l.take k))) wr ∧ Wr B b W wr
structure Six (W : World) (b : Nat) (a0 a1 a2 a3 a4 a5 : Value) : Prop where
  c0 : W.cell? ⟨b, 0, none⟩ = some a0
  c1 : W.cell? ⟨b, 1, none⟩ = some a1
  c2 : W.cell? ⟨b, 1 + 1, none⟩ = some a2
  c3 : W.cell? ⟨b, 1 + 2, none⟩ = some a3
  c4 : W.cell? ⟨b, 1 + 3, none⟩ = some a4
  c5 : W.cell? ⟨b, 1 + 4, none⟩ = some a5
theorem Whole.six {W : World} {b : Nat} {t : TypeId} {a0 a1 a2 a3 a4 a5 : Value} (h : Whole W b t #[a0, a1, a2, a3, a4, a5]) : Six W b a0 a1 a2 a3 a4 a5 :=
  ⟨(h.cell 0).trans rfl, (h.cell 1).trans rfl, (h.cell 2).trans rfl, (h.cell 3).trans rfl, (h.cell 4).trans rfl, (h.cell 5).trans rfl⟩

set_option maxHeartbeats 8000000 in
set_option maxRecDepth 100000 in
theorem w_object (ks : List ByteArray) (l : List GV) (hih : ∀ x ∈ l, WV x) (hRS : GV.RSs l) (B b : Nat) (bs : List Value) (L : Value) (W : World) (hL : ObjV (fun k => k < B) W L ks l) (h : Bld B b bs W) (hT : TenB B W) (hlen : bs.length + 32 * ((ks.map (·.size)).sum + GV.weights l) + 40 ≤ 140737488355328) :
    Calls Tryd.prog 41 #[.pointer (some ⟨b, 0, none⟩), L] W (WPost B b (bs ++ Lib.byteCells (123 :: (GV.encFs true ks l ++ [125]))) W) := by
  have H1 := Lib.hid (bld_byte B b bs 123 W h (by omega))
  have hkl := hL.1
  obtain ⟨A, c, rfl, hc1, hc2, hf⟩ := hL.form
  have HF := Lib.hid hf
  have HT := Lib.hid hT
  have HI := Lib.hid hih
  have HRS := Lib.hid hRS
  have HKL := Lib.hid hkl
  clear h hf hL hT hih hRS hkl
  unfold maxLen at hc2
  go_enter Tryd.func41, Tryd.ntmps41
  go_wp2_with (go_at_call 53; refine H1.out.mono ?_; rintro e W1 ⟨rfl, h1⟩; have K1 := Lib.hid h1; clear h1)
  go_loopw [12] (ObjRel B b bs ks l W) (fun i _ => l.length - (intOf i).toNat)
  case atStart => exact ⟨0, rfl, Nat.zero_le _, by simpa [encFs_nil, Lib.byteCells] using K1.out.1, K1.out.2⟩
  case round =>
    obtain ⟨k, rfl, hk, hb, hw⟩ := hrel
    have HR := Lib.hid (And.intro hb hw)
    have hl := encFs_len (l.take k) (ks.take k) true ((rss_iff _).2 fun x hx => (rss_iff l).1 HRS.out x (List.mem_of_mem_take hx)) (by rw [List.length_take, List.length_take, HKL.out])
    have hl2 : (bs ++ Lib.byteCells (123 :: GV.encFs true (ks.take k) (l.take k))).length = bs.length + 1 + (GV.encFs true (ks.take k) (l.take k)).length := by
      rw [List.length_append, Lib.byteCells_length, List.length_cons]; omega
    have hl3 := wtake_le l k
    have hl3' := keys_take_le ks k
    have hb0 : B ≤ b := hb.1
    have hbl : b < wr.heap.size := hb.lt
    by_cases hlt : k < l.length
    · obtain ⟨b', o', rfl, hK, hks, hE⟩ := HF.out (by intro e; rw [e] at hlt; simp at hlt)
      have hlk : k < ks.length := by have := HKL.out; omega
      obtain ⟨A1, c1, A2, c2, hcells, hval⟩ := field_atB hks hE hK hlt hlk
      obtain ⟨qk, q0, q1, q2, q3, q4⟩ := hcells wr hw.below
      have hl4 := wtake l k hlt
      have hl4' := keys_take ks k hlk
      have HC := Lib.hid (fun o => w_comma B b _ k (wr.alloc o) (bldAt_alloc hb o) (by rw [hl2]; omega))
      obtain ⟨bs1, hbs1⟩ : ∃ x, x = (bs ++ Lib.byteCells (123 :: GV.encFs true (ks.take k) (l.take k))) ++ Lib.byteCells (if k = 0 then [] else [44]) := ⟨_, rfl⟩
      have hl5 : bs1.length ≤ bs.length + 1 + (GV.encFs true (ks.take k) (l.take k)).length + 1 := by
        rw [hbs1, List.length_append, hl2, Lib.byteCells_length]; split <;> simp
      have HX := Lib.hid (fun (W2 : World) (h2 : BldAt B b bs1 W2) => w_text B b bs1 ks[k] W2 (.inr h2) (by omega))
      obtain ⟨bs2, hbs2⟩ : ∃ x, x = bs1 ++ Lib.byteCells (encText ks[k].data.toList) := ⟨_, rfl⟩
      have hl6 : bs2.length ≤ bs1.length + 6 * ks[k].size + 2 := by
        have h3 := encL_len ks[k].data.toList
        have h4 : ks[k].data.toList.length = ks[k].size := by simp
        rw [hbs2, List.length_append, Lib.byteCells_length, encText, List.length_cons, List.length_append, List.length_singleton]
        omega
      have HY := Lib.hid (fun (W2 : World) (h2 : BldAt B b bs2 W2) => bld_byte B b bs2 58 W2 (.inr h2) (by omega))
      have HV := Lib.hid (fun (W2 : World) (h2 : BldAt B b (bs2 ++ [.int .u8 58]) W2) (h3 : Wr B b W W2) => HI.out l[k] (List.getElem_mem hlt) B b _ _ W2 (hval W2 h3.below) (.inr h2) (HT.out.later h3.below) (by rw [List.length_append, List.length_singleton]; omega))
      have HE := Lib.hid (encFs_take_succ ks l k HKL.out hlt hlk)
      have HBS := Lib.hid (And.intro hbs1 hbs2)
      have hbs : B ≤ wr.heap.size := by omega
      rw [← hbs1] at HC
      rw [← hbs2] at HX
      clear hb hw hl hl2 hl3 hl4 hl5 hl6 hl3' hl4' hcells hval hE hK hks hbs1 hbs2
      generalize l[k] = x at *
      generalize ks[k] = kk at *
      go_wp2_with (first
        | (go_at_call 55; refine (HC.out _).mono ?_; rintro e W2 ⟨rfl, h2, h3⟩; have hx := h3.whole (Whole.new wr _ _) (by omega) (by decide); obtain ⟨z0, z1, z2, z3, z4, z5⟩ := hx.six; have HW := Lib.hid hx; have K2 := Lib.hid (And.intro h2 ((HR.out.2.alloc hbs _).trans h3)); clear h2 h3 hx)
        | (go_at_call 39; refine (HX.out _ K2.out.1).mono ?_; rintro e W3 ⟨rfl, h2, h3⟩; have hx := h3.whole HW.out (by omega) (by decide); clear z0 z1 z2 z3 z4 z5 HW; obtain ⟨z0, z1, z2, z3, z4, z5⟩ := hx.six; have HW := Lib.hid hx; have K3 := Lib.hid (And.intro h2 (K2.out.2.trans h3)); clear h2 h3 hx)
        | (go_at_call 53; refine (HY.out _ K3.out.1).mono ?_; rintro e W4 ⟨rfl, h2, h3⟩; have hx := h3.whole HW.out (by omega) (by decide); clear z0 z1 z2 z3 z4 z5 HW; obtain ⟨z0, z1, z2, z3, z4, z5⟩ := hx.six; have K4 := Lib.hid (And.intro h2 (K3.out.2.trans h3)); clear h2 h3 hx)
        | (go_at_call 21; refine (HV.out _ K4.out.1 K4.out.2).mono ?_; rintro e W5 ⟨rfl, h3⟩; have K5 := Lib.hid h3; clear h3))
      go_roundw
      case rel =>
        refine ⟨k + 1, by go_num, by omega, ?_, K4.out.2.trans K5.out.2⟩
        have := K5.out.1
        rw [HBS.out.2, HBS.out.1] at this
        rw [HE.out]
        simpa [Lib.byteCells] using this
      case measure => simp [intOf]; omega
    · have hke : k = l.length := by omega
      subst hke
      have HC := Lib.hid (bld_byte B b _ 125 wr (.inr hb) (by rw [hl2]; omega))
      clear hb hw hl hl2 hl3 hl3'
      go_wp2_with (go_at_call 53; refine HC.out.mono ?_; rintro e W2 ⟨rfl, h2⟩; have K2 := Lib.hid h2; clear h2)
      go_end0
      refine ⟨rfl, ?_, HR.out.2.trans K2.out.2⟩
      have := K2.out.1
      rw [List.take_length, ← HKL.out, List.take_length] at this
      simpa [Lib.byteCells] using this
end Go.Proofs.YtmmjkhkcffgeiaaDoor
