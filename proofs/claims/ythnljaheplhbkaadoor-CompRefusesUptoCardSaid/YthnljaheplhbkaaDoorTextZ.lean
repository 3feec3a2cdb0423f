/- What is put into a text, or struck from it, leaves valid UTF-8. -/
import Derived.Test.YthnljaheplhbkaaDoorBaseK
import Derived.Test.YthnljaheplhbkaaDoorBaseB
namespace Go.Proofs.YthnljaheplhbkaaDoor
open Go Go.RowKit Go.Lib
set_option linter.unusedVariables false
set_option linter.unusedSimpArgs false

theorem valid_chars : ∀ cs : List (List UInt8), (∀ u ∈ cs, IsChar u) → validD cs.flatten = true
  | [], _ => rfl
  | u :: r, h => by
    have hu := h u (List.mem_cons_self ..)
    have hp := hu.pos
    have hne : u ++ r.flatten ≠ [] := by
      intro e
      have := congrArg List.length e
      simp only [List.length_append, List.length_nil] at this
      omega
    rw [List.flatten_cons, validD_step _ hne, decodeL_char _ hu, if_neg (fun e => hu.1 (Prod.ext e.1 e.2)), hu.2, List.drop_left]
    exact valid_chars r (fun v hv => h v (List.mem_cons_of_mem _ hv))
theorem Reads.valid {s : ByteArray} {cs : List (List UInt8)} (h : Reads s cs) : Go.Proofs.YthnljaheplhbkaaDoor.valid s = true := by
  unfold Go.Proofs.YthnljaheplhbkaaDoor.valid
  rw [h.1]
  exact valid_chars cs h.2
theorem ins_valid {s t : ByteArray} (i : Nat) (hs : valid s = true) (ht : valid t = true) : valid (insS s i t) = true := by
  obtain ⟨cs, h1⟩ := reads_of hs
  obtain ⟨ts, h2⟩ := reads_of ht
  exact (h1.ins h2 i).valid
theorem del_valid {s : ByteArray} (i n : Nat) (hs : valid s = true) : valid (delS s i n) = true := by
  obtain ⟨cs, h1⟩ := reads_of hs
  exact (h1.del i n).valid
end Go.Proofs.YthnljaheplhbkaaDoor
