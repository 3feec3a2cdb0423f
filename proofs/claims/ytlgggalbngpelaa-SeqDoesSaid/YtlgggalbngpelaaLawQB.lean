/- SeqBack, the Go function: it comes out true. -/
import Derived.Test.YtlgggalbngpelaaSeqN
namespace Go.Proofs.Ytlgggalbngpelaa
open Go Go.RowKit
set_option linter.unusedVariables false
set_option linter.unusedSimpArgs false

theorem comp_new {W : World} {cs : List Value} {c : Cm GV} {o : Nat} (a n : Int) (hv : c.v = flat a n) (h : ∀ q, q < 12 → cs[o + q]? = [Value.int .u8 c.k, .slice none 0 0, .string ⟨#[]⟩, .int .i64 c.i, .int .i64 c.j, .int .i64 0, .int .u8 a, .int .i64 n, .string ⟨#[]⟩, .slice none 0 0, .slice none 0 0, .string ⟨#[]⟩][q]?) :
    CompAt (W.alloc (.cells cs.toArray 29)) W.heap.size o c := by
  have hw := Whole.new W 29 cs.toArray
  have hq : ∀ q v, q < 12 → [Value.int .u8 c.k, .slice none 0 0, .string ⟨#[]⟩, .int .i64 c.i, .int .i64 c.j, .int .i64 0, .int .u8 a, .int .i64 n, .string ⟨#[]⟩, .slice none 0 0, .slice none 0 0, .string ⟨#[]⟩][q]? = some v → (W.alloc (.cells cs.toArray 29)).cell? ⟨W.heap.size, o + q, none⟩ = some v := fun q v h1 h2 => (hw.cell (o + q)).trans (by simpa using (h q h1).trans h2)
  refine ⟨none, none, 0, 0, ⟨hq 0 _ (by decide) rfl, hq 1 _ (by decide) rfl, hq 2 _ (by decide) rfl, hq 3 _ (by decide) rfl, hq 4 _ (by decide) rfl, hq 5 _ (by decide) rfl, ?_, ?_, ?_, ?_, ?_, hq 11 _ (by decide) rfl⟩, ?_⟩ <;> rw [hv]
  · exact hq 6 _ (by decide) rfl
  · exact hq 7 _ (by decide) rfl
  · exact hq 8 _ (by decide) rfl
  · exact hq 9 _ (by decide) rfl
  · exact hq 10 _ (by decide) rfl
  · exact vl_flat _ _ _
/-- Two components, in a block. -/
theorem comp_two (W : World) (k i j k' i' j' : Nat) : ∀ q c, [(⟨k, i, j, flat 0 0⟩ : Cm GV), ⟨k', i', j', flat 0 0⟩][q]? = some c → CompAt (W.alloc (.cells #[.int .u8 k, .slice none 0 0, .string ⟨#[]⟩, .int .i64 i, .int .i64 j, .int .i64 0, .int .u8 0, .int .i64 0, .string ⟨#[]⟩, .slice none 0 0, .slice none 0 0, .string ⟨#[]⟩, .int .u8 k', .slice none 0 0, .string ⟨#[]⟩, .int .i64 i', .int .i64 j', .int .i64 0, .int .u8 0, .int .i64 0, .string ⟨#[]⟩, .slice none 0 0, .slice none 0 0, .string ⟨#[]⟩] 29)) W.heap.size (0 + q * 12) c := fun q c h => by
  match q, h with
  | 0, h =>
    simp at h; subst h
    exact comp_new (cs := [.int .u8 k, .slice none 0 0, .string ⟨#[]⟩, .int .i64 i, .int .i64 j, .int .i64 0, .int .u8 0, .int .i64 0, .string ⟨#[]⟩, .slice none 0 0, .slice none 0 0, .string ⟨#[]⟩, .int .u8 k', .slice none 0 0, .string ⟨#[]⟩, .int .i64 i', .int .i64 j', .int .i64 0, .int .u8 0, .int .i64 0, .string ⟨#[]⟩, .slice none 0 0, .slice none 0 0, .string ⟨#[]⟩]) 0 0 rfl (fun q hq => by match q, hq with | 0, _ | 1, _ | 2, _ | 3, _ | 4, _ | 5, _ | 6, _ | 7, _ | 8, _ | 9, _ | 10, _ | 11, _ => rfl)
  | 1, h =>
    simp at h; subst h
    exact comp_new (cs := [.int .u8 k, .slice none 0 0, .string ⟨#[]⟩, .int .i64 i, .int .i64 j, .int .i64 0, .int .u8 0, .int .i64 0, .string ⟨#[]⟩, .slice none 0 0, .slice none 0 0, .string ⟨#[]⟩, .int .u8 k', .slice none 0 0, .string ⟨#[]⟩, .int .i64 i', .int .i64 j', .int .i64 0, .int .u8 0, .int .i64 0, .string ⟨#[]⟩, .slice none 0 0, .slice none 0 0, .string ⟨#[]⟩]) 0 0 rfl (fun q hq => by match q, hq with | 0, _ | 1, _ | 2, _ | 3, _ | 4, _ | 5, _ | 6, _ | 7, _ | 8, _ | 9, _ | 10, _ | 11, _ => rfl)
theorem nums_weight : ∀ (l : List GV), (∀ g ∈ l, g.weight ≤ 1) → GV.weights l ≤ l.length
  | [], _ => by simp [GV.weights]
  | g :: r, h => by
    have := nums_weight r (fun x hx => h x (List.mem_cons_of_mem _ hx))
    have := h g (List.mem_cons_self ..)
    simp only [GV.weights, List.length_cons]; omega
def Light (l : List GV) : Prop := ∀ g ∈ l, g.weight ≤ 1
theorem nums_light (n : Nat) : Light (numsG n) := fun g hg => by
  simp only [numsG, List.mem_map] at hg
  obtain ⟨i, _, rfl⟩ := hg
  simp only [numG, GV.weight, GV.weights, show (⟨#[]⟩ : ByteArray).size = 0 from rfl]; simp
theorem do_light {l : List GV} {c : Cm GV} (h : Light l) (hc : c.v.weight ≤ 1) : Light (doL l c) := fun g hg => by
  unfold doL insL remL at hg
  have ht : ∀ n, ∀ x ∈ l.take n, x.weight ≤ 1 := fun n x hx => h x (List.mem_of_mem_take hx)
  have hd : ∀ n, ∀ x ∈ l.drop n, x.weight ≤ 1 := fun n x hx => h x (List.mem_of_mem_drop hx)
  have hr : ∀ x ∈ l.take c.i ++ l.drop (c.i + 1), x.weight ≤ 1 := fun x hx => (List.mem_append.1 hx).elim (ht _ x) (hd _ x)
  split at hg
  · rcases List.mem_append.1 hg with hx | hx
    · exact ht _ g hx
    · rcases List.mem_cons.1 hx with rfl | hx
      · exact hc
      · exact hd _ g hx
  · split at hg
    · exact hr g hg
    · split at hg
      · rcases List.mem_append.1 hg with hx | hx
        · exact hr g (List.mem_of_mem_take hx)
        · rcases List.mem_cons.1 hx with rfl | hx
          · exact hc
          · exact hr g (List.mem_of_mem_drop hx)
      · split at hg
        · rename_i x hx0
          rcases List.mem_append.1 hg with hx | hx
          · exact hr g (List.mem_of_mem_take hx)
          · rcases List.mem_cons.1 hx with rfl | hx
            · exact h _ (List.mem_of_getElem? hx0)
            · exact hr g (List.mem_of_mem_drop hx)
        · exact h g hg
theorem okAll_two {l : List GV} {c d : Cm GV} (h : Light l) (hl : l.length ≤ 1000) (hc : okC l.length c) (hd : okC (doL l c).length d) (hcv : c.v.weight ≤ 1) (hdv : d.v.weight ≤ 1) : okAll l [c, d] := by
  have l1 := do_len hc
  have l2 := do_len hd
  have b1 : (doL l c).length ≤ 1001 := by rw [l1]; split <;> (try split) <;> omega
  have b2 : (doL (doL l c) d).length ≤ 1002 := by rw [l2]; split <;> (try split) <;> omega
  have w1 := nums_weight _ (do_light h hcv)
  have w2 := nums_weight _ (do_light (do_light h hcv) hdv)
  exact ⟨hc, by omega, by omega, hd, by omega, by omega, trivial⟩
theorem move_back {l : List GV} {a b : Nat} (ha : a < l.length) (hb : b < l.length) (v v' : GV) : runL l [⟨7, a, b, v⟩, ⟨7, b, a, v'⟩] = l := by
  have hr := rem_len l a ha
  simp only [runL, List.foldl_cons, List.foldl_nil]
  rw [do_move (l := l) (c := ⟨7, a, b, v⟩) rfl ha, do_move' (a := l[a]) rfl (by simp only; exact ins_at_same _ _ _ (by omega))]
  simp only
  rw [rem_ins_same _ _ _ (by omega)]
  unfold insL remL
  have ht : (l.take a).length = a := by simp; omega
  rw [List.take_left' ht, List.drop_left' ht]
  exact (List.getElem_cons_drop (h := ha)) ▸ List.take_append_drop a l
theorem ins_back {l : List GV} {a b b' : Nat} (ha : a ≤ l.length) (v v' : GV) : runL l [⟨4, a, b, v⟩, ⟨5, a, b', v'⟩] = l := by
  simp only [runL, List.foldl_cons, List.foldl_nil]
  rw [do_ins (l := l) (c := ⟨4, a, b, v⟩) rfl, do_rem rfl]
  exact rem_ins_same _ _ _ ha
set_option maxRecDepth 100000 in
set_option maxHeartbeats 8000000 in
theorem qback_row (n i j : Int) (w : World) (hn : 0 ≤ n ∧ n ≤ 255) (hi : -9223372036854775808 ≤ i ∧ i ≤ 9223372036854775807) (hj : -9223372036854775808 ≤ j ∧ j ≤ 9223372036854775807) :
    Calls Try.prog 7 #[.int .u8 n, .int .i64 i, .int .i64 j] w fun e w' => e = .returned (.bool true) ∧ Below w.heap.size w w' := by
  obtain ⟨m, hm, hm1⟩ : ∃ m : Nat, 1 + n % 40 = (m : Int) ∧ 1 ≤ m ∧ m ≤ 40 := ⟨(1 + n % 40).toNat, by omega, by omega⟩
  obtain ⟨a, ha, ha1⟩ : ∃ a : Nat, max i 0 % (m : Int) = (a : Int) ∧ a < m := ⟨(max i 0 % (m : Int)).toNat, by have := Int.emod_nonneg (max i 0) (show (m : Int) ≠ 0 by omega); omega, by have := Int.emod_lt_of_pos (max i 0) (show (0 : Int) < m by omega); have := Int.emod_nonneg (max i 0) (show (m : Int) ≠ 0 by omega); omega⟩
  obtain ⟨b, hb, hb1⟩ : ∃ b : Nat, max j 0 % (m : Int) = (b : Int) ∧ b < m := ⟨(max j 0 % (m : Int)).toNat, by have := Int.emod_nonneg (max j 0) (show (m : Int) ≠ 0 by omega); omega, by have := Int.emod_lt_of_pos (max j 0) (show (0 : Int) < m by omega); have := Int.emod_nonneg (max j 0) (show (m : Int) ≠ 0 by omega); omega⟩
  have hlen := nums_len m
  have hlt := nums_light m
  have ok1 : okAll (numsG m) [⟨7, a, b, flat 0 0⟩, ⟨7, b, a, flat 0 0⟩] := okAll_two hlt (by omega) (by simp [okC, hlen]; omega) (by rw [do_len (by simp [okC, hlen]; omega)]; simp [okC, hlen]; omega) (by rw [flat_weight]; omega) (by rw [flat_weight]; omega)
  have ok2 : okAll (numsG m) [⟨4, a, 0, flat 0 0⟩, ⟨5, a, 0, flat 0 0⟩] := okAll_two hlt (by omega) (by simp [okC, hlen]; omega) (by rw [do_len (by simp [okC, hlen]; omega)]; simp [okC, hlen]; omega) (by rw [flat_weight]; omega) (by rw [flat_weight]; omega)
  have HK := Lib.hid (fun W => qknown_true W)
  have HN := Lib.hid (fun W => numbers_any m W (by omega))
  have hd1 := fun (W : World) A c (h : ListIn (numsG m) A c W) => law_done A c (numsG m) [⟨7, a, b, flat 0 0⟩, ⟨7, b, a, flat 0 0⟩] W.heap.size 0 2 _ (h.later (below_alloc W (.cells #[.int .u8 7, .slice none 0 0, .string ⟨#[]⟩, .int .i64 a, .int .i64 b, .int .i64 0, .int .u8 0, .int .i64 0, .string ⟨#[]⟩, .slice none 0 0, .slice none 0 0, .string ⟨#[]⟩, .int .u8 7, .slice none 0 0, .string ⟨#[]⟩, .int .i64 b, .int .i64 a, .int .i64 0, .int .u8 0, .int .i64 0, .string ⟨#[]⟩, .slice none 0 0, .slice none 0 0, .string ⟨#[]⟩] 29))) (Nat.le_refl 2) (by decide) (comp_two W 7 a b 7 b a) ok1
  have hd2 := fun (W : World) A c (h : ListIn (numsG m) A c W) => law_done A c (numsG m) [⟨4, a, 0, flat 0 0⟩, ⟨5, a, 0, flat 0 0⟩] W.heap.size 0 2 _ (h.later (below_alloc W (.cells #[.int .u8 4, .slice none 0 0, .string ⟨#[]⟩, .int .i64 a, .int .i64 0, .int .i64 0, .int .u8 0, .int .i64 0, .string ⟨#[]⟩, .slice none 0 0, .slice none 0 0, .string ⟨#[]⟩, .int .u8 5, .slice none 0 0, .string ⟨#[]⟩, .int .i64 a, .int .i64 0, .int .i64 0, .int .u8 0, .int .i64 0, .string ⟨#[]⟩, .slice none 0 0, .slice none 0 0, .string ⟨#[]⟩] 29))) (Nat.le_refl 2) (by decide) (comp_two W 4 a 0 5 a 0) ok2
  rw [move_back (by rw [hlen]; exact ha1) (by rw [hlen]; exact hb1)] at hd1
  rw [ins_back (by rw [hlen]; omega)] at hd2
  have hsm := fun (W : World) A c A' c' (h : ListIn (numsG m) A c W) (h' : ListIn (numsG m) A' c' W) => same_list h h' (by have := nums_weight _ hlt; omega)
  unfold DoneOut at hd1 hd2
  unfold ListOut at HN
  rw [hlen] at HN
  simp only [hlen, List.length_cons, List.length_nil, Nat.zero_add, Nat.reduceAdd] at hd1 hd2 hsm
  have HD1 := Lib.hid hd1
  have HD2 := Lib.hid hd2
  have HSM := Lib.hid hsm
  clear hd1 hd2 hsm ok1 ok2 hlt hlen
  go_enter Try.func7, Try.ntmps7
  go_wp2_with (first
    | (go_at_call 11; refine (HK.out _).mono ?_; rintro e w1 ⟨rfl, hb⟩; have B1 := Lib.hid hb; clear hb)
    | (go_at_call 13; refine (HN.out _).mono ?_; rintro e w2 ⟨A, c, rfl, hl, hb⟩; have L2 := Lib.hid (show ListIn (numsG m) A c w2 by unfold ListIn; rw [nums_len]; exact hl); have B2 := Lib.hid (B1.out.trans (hb.mono B1.out.size)); clear hl hb)
    | (go_at_call 21; ((with_reducible refine (HD1.out _ _ _ L2.out).mono ?_); rintro e w3 ⟨A3, c3, rfl, hl, hb⟩; have L3 := Lib.hid hl; have K3 := Lib.hid (L2.out.later ((below_alloc _ _).trans (hb.mono (by simp)))); have B3 := Lib.hid (B2.out.trans (((below_alloc _ _).trans (hb.mono (by simp))).mono B2.out.size)); clear hl hb))
    | (go_at_call 21; ((with_reducible refine (HD2.out _ _ _ K3.out).mono ?_); rintro e w4 ⟨A4, c4, rfl, hl, hb⟩; have L4 := Lib.hid hl; have K4 := Lib.hid (K3.out.later ((below_alloc _ _).trans (hb.mono (by simp)))); have M4 := Lib.hid (L3.out.later ((below_alloc _ _).trans (hb.mono (by simp)))); have B4 := Lib.hid (B3.out.trans (((below_alloc _ _).trans (hb.mono (by simp))).mono B3.out.size)); clear hl hb))
    | (go_at_call 17; ((with_reducible refine (HSM.out _ _ _ _ _ M4.out K4.out).mono ?_); rintro e w5 ⟨rfl, hb⟩; have K5 := Lib.hid (K4.out.later hb); have L5 := Lib.hid (L4.out.later hb); have B5 := Lib.hid (B4.out.trans (hb.mono B4.out.size)); clear hb))
    | (go_at_call 17; ((with_reducible refine (HSM.out _ _ _ _ _ L5.out K5.out).mono ?_); rintro e w6 ⟨rfl, hb⟩; have B6 := Lib.hid (B5.out.trans (hb.mono B5.out.size)); clear hb)))
  go_ret
  exact ⟨rfl, B6.out⟩
end Go.Proofs.Ytlgggalbngpelaa
