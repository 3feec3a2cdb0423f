/- A region in any order, by an invariant that speaks of which operations have been: each is walked once, whatever has been ahead of it. -/
import Derived.Orders
import Derived.WalkKit
namespace Go.Proofs.Ytdagpmmachaeaaa
open Go Go.RowKit
set_option linter.unusedVariables false
set_option linter.unusedSimpArgs false
variable {P : Program} {ops : Array Oper} {Q : Exit → Act → World → Prop}

def unl (ls : Array Bool) : Nat := ls.toList.count false
theorem unl_set {ls : Array Bool} {i : Nat} (h : ls.getD i true = false) : unl (ls.setIfInBounds i true) + 1 = unl ls := by
  have hi : i < ls.size := by
    rcases Nat.lt_or_ge i ls.size with h1 | h1
    · exact h1
    · rw [Array.getD_eq_getD_getElem?, Array.getElem?_eq_none h1] at h; cases h
  have hl : ls.toList[i]'(by simpa using hi) = false := by
    rw [Array.getD_eq_getD_getElem?, Array.getElem?_eq_getElem hi] at h; simpa using h
  have hm : false ∈ ls.toList := by rw [← hl]; exact List.getElem_mem _
  have hp := List.count_pos_iff.2 hm
  unfold unl
  rw [Array.toList_setIfInBounds, List.count_set (by simpa using hi), hl]
  simp only [beq_self_eq_true, if_true]
  rw [show (true == false) = false from rfl]
  simp only [Bool.false_eq_true, if_false]
  omega
theorem unl_none {ls : Array Bool} (h : unl ls = 0) (i : Nat) : ls.getD i true = true := by
  cases hc : ls.getD i true with
  | true => rfl
  | false => have := unl_set hc; omega
theorem any_inv (I : Array Bool → Act → World → Prop) (hstep : ∀ ls a w i, I ls a w → i ∈ Region.ready .any ops ls → wpOp P ops Q i (I (ls.setIfInBounds i true)) a w)
    (hfin : ∀ ls a w, I ls a w → Region.ready .any ops ls = [] → Q .normal a w) : ∀ (n : Nat) (ls : Array Bool) (a : Act) (w : World), unl ls ≤ n → I ls a w → wpAny P .any ops Q n ls a w
  | 0, ls, a, w, hn, hI => by
    have hr : Region.ready .any ops ls = [] := List.eq_nil_iff_forall_not_mem.2 fun i hi => by
      have h1 := (mem_ready.1 hi).1
      rw [unl_none (by omega) i] at h1; cases h1
    exact ⟨hr, hfin ls a w hI hr⟩
  | n + 1, ls, a, w, hn, hI => by
    refine ⟨fun hr => hfin ls a w hI hr, fun i hi => ?_⟩
    have h1 := unl_set (mem_ready.1 hi).1
    exact wpOp_mono (fun a' w' h => any_inv I hstep hfin n _ a' w' (by omega) h) (hstep ls a w i hI hi)
theorem region_inv {id : Nat} {a : Act} {w : World} (hm : P.follows .mixedOrders = true) (I : Array Bool → Act → World → Prop) (h0 : I (Array.replicate ops.size false) a w.drew)
    (hstep : ∀ ls a w i, I ls a w → i ∈ Region.ready .any ops ls → wpOp P ops Q i (I (ls.setIfInBounds i true)) a w)
    (hfin : ∀ ls a w, I ls a w → Region.ready .any ops ls = [] → Q .normal a w) : (Code.region id ops true).wp P Q a w :=
  wp_region_any hm (any_inv I hstep hfin _ _ _ _ (by unfold unl; simp) h0)
/-- Where nothing is ready all has been: each waits for what stands ahead of it in the text alone. -/
theorem all_listed {ls : Array Bool} (hlex : ∀ (i : Nat) (o : Oper), ops[i]? = some o → ∀ e ∈ o.after, e.on < i) (hsz : ls.size = ops.size) (hr : Region.ready .any ops ls = []) : ∀ i, i < ops.size → ls.getD i false = true := by
  intro i
  induction i using Nat.strongRecOn with
  | ind i ih =>
    intro hi
    cases hc : ls.getD i false with
    | true => rfl
    | false =>
      exfalso
      have hil : i < ls.size := by omega
      have hmem : i ∈ Region.ready .any ops ls := mem_ready.2 ⟨by
        rw [Array.getD_eq_getD_getElem?, Array.getElem?_eq_getElem hil] at hc ⊢; exact hc, ops[i], Array.getElem?_eq_getElem hi, fun e he _ => ih e.on (hlex i _ (Array.getElem?_eq_getElem hi) e he) (by have := hlex i _ (Array.getElem?_eq_getElem hi) e he; omega)⟩
      rw [hr] at hmem; cases hmem
theorem wpOp_of {i : Nat} {o : Oper} {K : Act → World → Prop} {a : Act} {w : World} (ho : ops[i]? = some o) (hg : o.guard = none) (h : o.wp P a w K Q) : wpOp P ops Q i K a w := by
  unfold wpOp
  rw [ho]
  simp only [Region.wanted, hg]
  exact .inl h
end Go.Proofs.Ytdagpmmachaeaaa
