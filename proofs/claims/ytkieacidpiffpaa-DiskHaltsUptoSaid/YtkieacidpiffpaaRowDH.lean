/- DiskHalts: whatever is handed in, of bulk up to the row's bound, it returns true; what is handed in reads as it did. -/
import Derived.Test.YtkieacidpiffpaaRows
import Derived.Test.YtkieacidpiffpaaLawDH
import Derived.Test.YtkieacidpiffpaaOpenR
import Derived.WalkKit
import Derived.ProofKit
import Derived.OpenShut
import Derived.Carry
import Derived.JoinedCond
import Derived.Lib.SmallJoins
namespace Go.Proofs.Ytkieacidpiffpaa
open Go Go.ChangeShapes Go.WideShapes Go.ChangeAt Go.RowKit
set_option linter.unusedVariables false
set_option linter.unusedSimpArgs false

theorem diskHalts_own : ownKnob Try.prog.godebug = none := by kernel_rfl
theorem diskHalts_laidOut : laidOutB Try.prog = true := by kernel_rfl
set_option maxRecDepth 100000 in
theorem diskHalts_liftedUpto (os : Os) (started : os.Started) (H : Type) (enc : TypeId × Value → H) (F : Stop.Interp) :
    ReturnsInHanded {} Try.checked os 6 .any ((Rows.OpenSpec.upto Rows.diskHaltsSpec).pre6 enc Try.prog Try.f6 Rows.diskHaltsUptoRow.domain false) (((Rows.OpenSpec.upto Rows.diskHaltsSpec).at F).post enc Try.prog Try.f6 false true false false) := by
  refine returnsInHanded_of_cond (C := Try.checked) (s := Rows.OpenSpec.upto Rows.diskHaltsSpec) (k := Rows.uptoSmall) rfl diskHalts_own started (by kernel_rfl) Try.func6
    (OpenSpec.witness (enc := enc) (C := Try.checked) (s := Rows.OpenSpec.upto Rows.diskHaltsSpec) (k := Rows.uptoSmall) rfl false ⟨#[], #[.slice none 0 0, .slice none 0 0], []⟩ 8 (by kernel_rfl) (by kernel_rfl) (by kernel_rfl)
      (x := ([.nil, .nil], [], [])) (by kernel_rfl) (by kernel_rfl) (by kernel_rfl)) ?_
  intro W base args ds gs before hval0 hW _ hkk _
  have hval : ∀ (j : Nat) t v, Try.f6.params[j]? = some t → args[j]? = some v → Value.okWide Try.prog W .any base t v := hval0
  have hW' := hW
  obtain ⟨p, q, hA0, hV, rfl, hfz, hnd⟩ := hW
  have hA : DataW.TrodAll enc Try.prog W 0 (fun _ => true) true Try.f6.params.toList args.toList ds p := hA0
  rw [Try.params6] at hA hval
  obtain ⟨v0, v1, d0, d1, p0, p1, rfl, rfl, rfl, h0, h1⟩ := trodAll_two hA
  obtain ⟨rfl, rfl⟩ := trodVars_none hV
  simp only [List.append_nil] at hW'
  have hlt0 : ∀ x ∈ p0, x.block < W.heap.size := fun x hx => hW'.lt x (List.mem_append_left _ hx)
  have k0 := h0
  have hlt1 : ∀ x ∈ p1, x.block < W.heap.size := fun x hx => hW'.lt x (List.mem_append_right _ hx)
  have k1 := h1
  have hbulk : Rows.uptoBulkAll [d0, d1] ≤ 1048576 := by
    have := of_decide_eq_true hkk
    simpa using this
  simp only [Rows.uptoBulkAll] at hbulk
  obtain ⟨A0, cap0, xs0, rfl, hl0, hm0, hR0, hb0⟩ := open_ops k0 (okWide_slice Try.underlying36 (hval 0 36 v0 rfl rfl))
  obtain ⟨A1, cap1, xs1, rfl, hl1, hm1, hR1, hb1⟩ := open_ops k1 (okWide_slice Try.underlying36 (hval 1 36 v1 rfl rfl))
  have hr0 : wo xs0 ≤ 1000000000 := by omega
  have hr1 : wo xs1 ≤ 1000000000 := by omega
  clear hbulk hb0 hb1 hkk
  refine (dhalts_true A0 A1 cap0 cap1 xs0 xs1 W hR0 hR1 hr0 hr1).mono fun e W' ⟨he, hb⟩ => ?_
  subst he
  exact ⟨_, rfl, (show Rows.diskHaltsSpec.post enc Try.prog Try.f6 false true false false W _ _ W' from ⟨_, _, _, [], _, [], hW', trodAll_mk1 (shut_bool Try.underlying4 _), trodAll_mk2 (Below.trod diskHalts_laidOut (by kernel_rfl) (of_decide_eq_true (by kernel_rfl)) h0 hb hlt0) (Below.trod diskHalts_laidOut (by kernel_rfl) (of_decide_eq_true (by kernel_rfl)) h1 hb hlt1), rfl, hb.frame _, fun h => by cases h⟩)⟩

theorem diskHalts_holdsUpto : Rows.DiskHaltsUptoSaid :=
  OpenClaim.holds_of_cond 6 Try.f6 rfl rfl rfl rfl rfl rfl rfl ⟨rfl, rfl, rfl, rfl, rfl⟩ rfl rfl rfl rfl rfl (by kernel_rfl) Try.func6 (by kernel_rfl)
    (of_decide_eq_true (by kernel_rfl)) (by unfold Func.isWrapper; first | (rw [if_pos (by decide +kernel)]; kernel_rfl) | (rw [if_neg (by decide +kernel)]; exact ⟨rfl, rfl⟩))
    (fun os started H enc _ F => diskHalts_liftedUpto os started H enc F)
#print axioms diskHalts_holdsUpto
end Go.Proofs.Ytkieacidpiffpaa
