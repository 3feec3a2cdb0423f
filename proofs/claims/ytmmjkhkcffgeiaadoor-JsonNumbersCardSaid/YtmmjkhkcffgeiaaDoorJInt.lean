/- What json's reader reads of a number, as plain mathematics. -/
import Derived.Test.YtmmjkhkcffgeiaaDoorRdG
namespace Go.Proofs.YtmmjkhkcffgeiaaDoor
open Go Go.RowKit

/-- A sign, as it is skipped. -/
def Sgn (sg l : List UInt8) : Prop := sg = [45] ∨ (sg = [] ∧ l.head? ≠ some 45)
theorem num_one {sg ds t r : List UInt8} {n : Int} (_hn : -9223372036854775808 ≤ n ∧ n ≤ 9223372036854775807) (hs : Sgn sg (ds ++ t)) (hd : ∀ c ∈ ds, isD c = true) (ht : Nd t) (hr : Nd r) (e : sg ++ (ds ++ t) = Lib.itoa n ++ r) : sg ++ ds = Lib.itoa n ∧ t = r := by
  have main : ∀ u : Nat, ds ++ t = Lib.decDigits u ++ r → ds = Lib.decDigits u ∧ t = r := fun u e => by
    have h1 := span_dd hd ht
    have h2 := span_dd (dd_all u) hr
    rw [e] at h1
    exact ⟨h1.1.symm.trans h2.1, h1.2.symm.trans h2.2⟩
  unfold Lib.itoa at e ⊢
  by_cases hneg : n < 0
  · rw [if_pos hneg] at e ⊢
    rcases hs with rfl | ⟨rfl, hh⟩
    · simp only [List.cons_append, List.nil_append, List.cons.injEq, true_and] at e ⊢
      exact main _ e
    · rw [List.nil_append] at e
      rw [e] at hh
      exact absurd rfl hh
  · rw [if_neg hneg] at e ⊢
    rcases hs with rfl | ⟨rfl, hh⟩
    · exfalso
      obtain ⟨c, u, hc⟩ := List.exists_cons_of_ne_nil (dd_ne n.toNat)
      have hd := dd_all n.toNat c (by rw [hc]; simp)
      rw [hc] at e
      simp only [List.cons_append, List.nil_append, List.cons.injEq] at e
      rw [← e.1] at hd
      exact absurd hd (by decide)
    · rw [List.nil_append] at e ⊢
      exact main _ e
/-- Where no number stands. -/
theorem no_int {m : Nat} {sg ds t : List UInt8} {c : UInt8} {l0 : List UInt8} (hc : sg ++ (ds ++ t) = c :: l0) (hk : headKind c = 2) (hs : Sgn sg (ds ++ t)) (hd : ∀ c ∈ ds, isD c = true) (ht : Nd t)
    (h : ∀ n, Lib.parseIntB 64 (sg ++ ds) = .ok n → Lib.itoa n ≠ sg ++ ds) : ¬ ∃ g r, VAt m (sg ++ (ds ++ t)) g r := fun ⟨g, r, e⟩ => by
  have hkg : g.kind = 2 := by rw [hc] at e; rw [vat_head e, hk]
  obtain ⟨n, hn, hg⟩ := rs_2 e.1 hkg
  have he := e.2.2.1
  rw [hg, enc_2] at he
  have := num_one hn hs hd ht (e.2.2.2 hkg) he
  exact h n (by rw [this.1]; exact itoa_parse n hn.1 hn.2) this.1.symm
theorem yes_int {m : Nat} {sg ds t : List UInt8} {n : Int} (h : Lib.parseIntB 64 (sg ++ ds) = .ok n) (h2 : Lib.itoa n = sg ++ ds) (ht : Nd t) : VAt m (sg ++ (ds ++ t)) (.mk 2 n ⟨#[]⟩ [] [] []) t := by
  rw [← List.append_assoc, ← h2]
  exact vat_int m n (parse_range h) t ht
theorem rest_mid {s : ByteArray} {i j : Nat} {p : List UInt8} (hij : i ≤ j) (hj : j ≤ s.size) (h : rest s i = p ++ rest s j) : (s.extract i j).data.toList = p := by
  have e1 : (s.extract i j).data.toList = (rest s i).take (j - i) := by
    unfold rest
    simp [List.take_drop]
  have hl : p.length = j - i := by
    have := congrArg List.length h
    rw [rest_length, List.length_append, rest_length] at this
    omega
  rw [e1, h, ← hl, List.take_left']
  rfl
end Go.Proofs.YtmmjkhkcffgeiaaDoor
