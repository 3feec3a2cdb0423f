/- A region in whatever order, with a condition that need hold only till one of its operations has come: what that one waits for may be taken first. Plain; nothing of the program. -/
import Derived.Deep.RegionHeld
import Derived.RegionTactic
namespace Go.Proofs.YtmmjkhkcffgeiaaDoor
open Go

section
variable {P : Program} {ops : Array Oper} {Q : Exit → Act → World → Prop} {md : Region.Mode} {S : World → Prop} {k : Nat}

/-- Whatever order is picked from here on; S holds till operation k has come. -/
def wpTill (P : Program) (md : Region.Mode) (ops : Array Oper) (Q : Exit → Act → World → Prop) (S : World → Prop) (k : Nat) : Nat → Array Bool → Act → World → Prop
  | 0, ls, a, w => Region.ready md ops ls = [] ∧ Q .normal a w
  | n + 1, ls, a, w => (Region.ready md ops ls = [] → Q .normal a w) ∧
      ∀ i ∈ Region.ready md ops ls, wpOp P ops Q i (fun a' w' => ((ls.setIfInBounds i true).getD k true = false → S w') ∧ wpTill P md ops Q S k n (ls.setIfInBounds i true) a' w') a w
theorem till_any : ∀ (n : Nat) (ls : Array Bool) (a : Act) (w : World), wpTill P md ops Q S k n ls a w → wpAny P md ops Q n ls a w
  | 0, _, _, _, h => h
  | n + 1, _, _, _, h => ⟨h.1, fun i hi => wpOp_mono (fun a' w' h' => till_any n _ a' w' h'.2) (h.2 i hi)⟩
theorem getD_stays {ls : Array Bool} {i k : Nat} (h : ls.getD k true = true) : (ls.setIfInBounds i true).getD k true = true := by
  by_cases e : i = k
  · subst e
    by_cases hs : i < ls.size
    · simp [hs]
    · simp [hs]
  · rw [getD_set_ne true e]; exact h
/-- Once k has come nothing more is asked of the world. -/
theorem till_of_any : ∀ (n : Nat) (ls : Array Bool) (a : Act) (w : World), ls.getD k true = true → wpAny P md ops Q n ls a w → wpTill P md ops Q S k n ls a w
  | 0, _, _, _, _, h => h
  | n + 1, ls, _, _, hk, h => ⟨h.1, fun i hi => wpOp_mono (fun a' w' h' => ⟨fun e => (by rw [getD_stays hk] at e; cases e), till_of_any n _ a' w' (getD_stays hk) h'⟩) (h.2 i hi)⟩
theorem ready_open {ls : Array Bool} {i : Nat} (h : i ∈ Region.ready md ops ls) : ls.getD i true = false := (mem_ready.1 h).1
/-- i may be taken first, since k waits for it: S need not hold any longer. -/
theorem till_first {i : Nat} {oi ok : Oper} {v : Value} (hi : ops[i]? = some oi) (hok : ops[k]? = some ok) (hwait : ∃ e ∈ ok.after, Region.binds md e = true ∧ e.on = i) (hsel : ∀ (j : Nat) (o : Oper) cs b, ops[j]? = some o → o.op ≠ .select cs b)
    (hQ : ∀ c a w, Q (.panic c) (a.put oi.dst v) w → Q (.panic c) a w) :
    ∀ (n : Nat) (ls : Array Bool) (a : Act) (w : World),
      (∀ j oj, ops[j]? = some oj → j ≠ i → ls.getD j true = false → (∀ e ∈ oj.after, Region.binds md e = true → e.on ≠ i) → oi.apart ops oj = true) →
      i ∈ Region.ready md ops ls → ls.getD k true = false → i ≠ k → YieldsIf P ops S oi v a → S w →
      wpTill P md ops Q S k n (ls.setIfInBounds i true) (a.put oi.dst v) w → wpTill P md ops Q S k (n + 1) ls a w := by
  intro n
  induction n with
  | zero =>
    intro ls a w _ hr hk hik hy hS H
    refine ⟨fun h => absurd (h ▸ hr) List.not_mem_nil, fun j hj => ?_⟩
    rcases Nat.decEq j i with hji | hji
    · exact absurd (H.1 ▸ ready_mono hj hji) List.not_mem_nil
    · subst hji
      exact hy.wpOp hi hS ⟨fun _ => hS, H⟩
  | succ n ih =>
    intro ls a w hfree hr hk hik hy hS H
    refine ⟨fun h => absurd (h ▸ hr) List.not_mem_nil, fun j hj => ?_⟩
    rcases Nat.decEq j i with hji | hji
    · obtain ⟨hjun, oj, hoj, hall⟩ := mem_ready.1 hj
      have hiun := ready_open hr
      -- what has come cannot have waited for i
      have hnot : ∀ e ∈ oj.after, Region.binds md e = true → e.on ≠ i := fun e he hb heq => by
        have h1 := hall e he hb
        rw [heq] at h1
        rcases Nat.lt_or_ge i ls.size with h' | h'
        · simp [h'] at hiun h1; rw [hiun] at h1; cases h1
        · simp [Array.getElem?_eq_none h'] at h1
      have hjk : j ≠ k := fun e => by
        subst e
        obtain ⟨e, he, hb, ho⟩ := hwait
        rw [hok] at hoj
        cases hoj
        exact hnot e he hb ho
      have h2 := wpOp_putIf hoj (hfree j oj hoj hji hjun hnot) (fun cs b => hsel i oi cs b hi) (fun cs b => hsel j oj cs b hoj) hQ hy (H.2 j (ready_mono hj hji))
      have hk2 : (ls.setIfInBounds j true).getD k true = false := by rw [getD_set_ne true hjk]; exact hk
      have hk3 : ((ls.setIfInBounds i true).setIfInBounds j true).getD k true = false := by rw [getD_set_ne true hjk, getD_set_ne true hik]; exact hk
      have hfree' : ∀ m om, ops[m]? = some om → m ≠ i → (ls.setIfInBounds j true).getD m true = false → (∀ e ∈ om.after, Region.binds md e = true → e.on ≠ i) → oi.apart ops om = true := fun m om hm hmi hun hno => by
        refine hfree m om hm hmi ?_ hno
        rcases Nat.decEq j m with e | e
        · rw [getD_set_ne true e] at hun; exact hun
        · rw [← e]; exact hjun
      refine wpOp_mono (fun a' w' h3 => ⟨fun _ => h3.2.1 hk3, ih (ls.setIfInBounds j true) a' w' hfree' (ready_mono hr (Ne.symm hji)) hk2 hik h3.1 (h3.2.1 hk3) ?_⟩) h2
      rw [Array.setIfInBounds_comm _ _ hji]
      exact h3.2.2
    · subst hji
      exact hy.wpOp hi hS ⟨fun _ => hS, H⟩
/-- Does k wait for i? -/
def waits (md : Region.Mode) (ops : Array Oper) (k i : Nat) : Bool := match ops[k]? with
  | some o => o.after.any fun e => Region.binds md e && e.on == i
  | none => false
theorem till_take {i : Nat} {oi : Oper} {d : Option Tmp} {v : Value} {n : Nat} {ls : Array Bool} {a : Act} {w : World} (hi : ops[i]? = some oi) (hd : oi.dst = d)
    (hs : Region.noSelect ops = true) (hf : Region.free md ops ls i = true) (hr : (Region.ready md ops ls).contains i = true) (hw : waits md ops k i = true) (hk : ls.getD k true = false) (hik : (i == k) = false)
    (hQ : ∀ c a w, Q (.panic c) (a.put d v) w → Q (.panic c) a w) (hy : YieldsIf P ops S oi v a) (hS : S w)
    (h : wpTill P md ops Q S k n (ls.setIfInBounds i true) (a.put d v) w) : wpTill P md ops Q S k (n + 1) ls a w := by
  subst hd
  cases hok : ops[k]? with
  | none => simp [waits, hok] at hw
  | some ok =>
    refine till_first hi hok ?_ (Region.noSelect_spec hs) hQ n ls a w (Region.free_spec hi hf) (by simpa using hr) hk (by simpa using hik) hy hS h
    simp only [waits, hok] at hw
    obtain ⟨e, he, hb⟩ := Array.any_eq_true'.1 hw
    simp only [Bool.and_eq_true, beq_iff_eq] at hb
    exact ⟨e, he, hb.1, hb.2⟩
/-- Each of rs comes up next. -/
def AllTill (P : Program) (md : Region.Mode) (ops : Array Oper) (Q : Exit → Act → World → Prop) (S : World → Prop) (k : Nat) (n : Nat) (ls : Array Bool) (a : Act) (w : World) (rs : List Nat) : Prop :=
  ∀ i ∈ rs, wpOp P ops Q i (fun a' w' => ((ls.setIfInBounds i true).getD k true = false → S w') ∧ wpTill P md ops Q S k n (ls.setIfInBounds i true) a' w') a w
theorem AllTill.nil {n : Nat} {ls : Array Bool} {a : Act} {w : World} : AllTill P md ops Q S k n ls a w [] := fun _ h => absurd h List.not_mem_nil
theorem AllTill.cons {n : Nat} {ls : Array Bool} {a : Act} {w : World} {i : Nat} {o : Oper} {rs : List Nat} (ho : ops[i]? = some o)
    (h : ∀ K : Act → World → Prop, Shut (∀ a w, ((ls.setIfInBounds i true).getD k true = false → S w) → wpTill P md ops Q S k n (ls.setIfInBounds i true) a w → K a w) → if Region.wanted o (yielded ops a.tmps) = true then Oper.wp P o a w K Q else K (a.put o.dst undef) w)
    (hs : AllTill P md ops Q S k n ls a w rs) : AllTill P md ops Q S k n ls a w (i :: rs) := fun j hj => by
  rcases List.mem_cons.1 hj with e | hj
  · subst e; exact wpOp_step ho fun K hK => h K fun a w hS hW => hK a w ⟨hS, hW⟩
  · exact hs j hj
theorem till_ready {rs : List Nat} {n : Nat} {ls : Array Bool} {a : Act} {w : World} (hr : Region.ready md ops ls = rs) (hne : rs ≠ []) (h : AllTill P md ops Q S k n ls a w rs) : wpTill P md ops Q S k (n + 1) ls a w :=
  ⟨fun h0 => absurd (hr ▸ h0) hne, hr ▸ h⟩
theorem till_region {id : Nat} {a : Act} {w : World} (hm : P.follows .mixedOrders = true) (S : World → Prop) (k n : Nat) (hn : ops.size = n) (h : wpTill P .any ops Q S k n (Array.replicate n false) a w.drew) : (Code.region id ops true).wp P Q a w := by
  subst hn
  exact wp_region_any hm (till_any _ _ _ _ h)
/-- Behind k: what yields in any world may be taken first. -/
theorem any_take {i : Nat} {oi : Oper} {d : Option Tmp} {v : Value} {n : Nat} {ls : Array Bool} {a : Act} {w : World} (hi : ops[i]? = some oi) (hd : oi.dst = d)
    (hs : Region.noSelect ops = true) (hf : Region.free md ops ls i = true) (hr : (Region.ready md ops ls).contains i = true)
    (hQ : ∀ c a w, Q (.panic c) (a.put d v) w → Q (.panic c) a w) (hy : Yields P ops oi v a) (h : wpAny P md ops Q n (ls.setIfInBounds i true) (a.put d v) w) : wpAny P md ops Q (n + 1) ls a w := by
  subst hd
  exact wpAny_take hi hs hf hr hQ hy h
/-- One of two comes first, then the other one. -/
theorem any_cons {n : Nat} {ls : Array Bool} {a : Act} {w : World} {i : Nat} {o : Oper} {rs : List Nat} (ho : ops[i]? = some o)
    (h : ∀ K : Act → World → Prop, Shut (∀ a w, wpAny P md ops Q n (ls.setIfInBounds i true) a w → K a w) → if Region.wanted o (yielded ops a.tmps) = true then Oper.wp P o a w K Q else K (a.put o.dst undef) w)
    (hs : AllReady P md ops Q n ls a w rs) : AllReady P md ops Q n ls a w (i :: rs) := AllReady.cons ho h hs
end
end Go.Proofs.YtmmjkhkcffgeiaaDoor
