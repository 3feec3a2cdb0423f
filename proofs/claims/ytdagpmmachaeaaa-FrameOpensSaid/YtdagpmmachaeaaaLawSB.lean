/- SumBytes, the Go function: it comes out true. -/
import Derived.Test.YtdagpmmachaeaaaOwn
namespace Go.Proofs.Ytdagpmmachaeaaa
open Go Go.RowKit
set_option linter.unusedVariables false
set_option linter.unusedSimpArgs false

theorem max_nat (z : Int) (hz : -9223372036854775808 ≤ z ∧ z ≤ 9223372036854775807) : ∃ m : Nat, (if (0 : Int) > z then 0 else z) = (m : Int) ∧ m ≤ 9223372036854775807 := by
  by_cases h : 0 > z
  · exact ⟨0, by rw [if_pos h]; rfl, by omega⟩
  · exact ⟨z.toNat, by rw [if_neg h]; omega, by omega⟩
theorem Bytes.al {hi : Nat} {W : World} {A : Option Addr} {bs : List Int} (h : Bytes hi W A bs) (hh : hi ≤ W.heap.size) (o : Obj) : Bytes hi (W.alloc o) A bs := h.keep ((Below.refl _ _).alloc (Nat.le_refl _) o) hh
theorem Bytes.far {hi : Nat} {W : World} {A : Option Addr} {bs : List Int} (h : Bytes hi W A bs) {p : Addr} (hp : hi ≤ p.block) (u : Value) : Bytes hi (W.setCell p u) A bs := h.keep ((Below.refl hi W).setCell hp u) (Nat.le_refl _)
theorem size_al {hi : Nat} {W : World} (h : hi ≤ W.heap.size) (o : Obj) : hi ≤ (W.alloc o).heap.size := by simp; omega
theorem below_grown {W W' : World} (hg : W.grownBy W' none) : Below W.heap.size W W' := ⟨hg.os, hg.tape, hg.output, hg.size, fun k hk => hg.block k hk (by simp)⟩
theorem short_set {bs : List Int} (h : Short bs) (k : Nat) {x : Int} (hx : 0 ≤ x ∧ x ≤ 255) : Short (bs.set k x) :=
  ⟨fun y hy => (List.mem_or_eq_of_mem_set hy).elim (h.1 y) (fun e => by subst e; exact hx), by rw [List.length_set]; exact h.2⟩
theorem set_split {bs : List Int} {k : Nat} (h : k < bs.length) (x : Int) : bs.set k x = bs.take k ++ x :: bs.drop (k + 1) := List.set_eq_take_append_cons_drop .. |>.trans (if_pos h)
theorem split_at {bs : List Int} {k : Nat} (h : k < bs.length) : bs = bs.take k ++ bs[k] :: bs.drop (k + 1) := by
  rw [← List.drop_eq_getElem_cons h, List.take_append_drop]
theorem sum_set {bs : List Int} (hb : Byte bs) {k : Nat} (h : k < bs.length) {x : Int} (hx : 0 ≤ x ∧ x ≤ 255) (e : sumN [bs] = sumN [bs.set k x]) : bs[k] = x := by
  have e2 : sumN [bs.take k ++ bs[k] :: bs.drop (k + 1)] = sumN [bs.take k ++ x :: bs.drop (k + 1)] := by rw [← split_at h, ← set_split h]; exact e
  exact sum_other (hb.take k) (hb.drop (k + 1)) (hb _ (List.getElem_mem h)) hx e2
theorem xor_ne {u x : Int} (hu : 0 ≤ u ∧ u ≤ 255) (hx : 0 ≤ x ∧ x ≤ 255) (h : x ≠ 0) : u ≠ xorB u x := by
  intro e
  have e2 : u.toNat ^^^ 0 = u.toNat ^^^ x.toNat := by rw [Nat.xor_zero]; unfold xorB at e; omega
  have := xor_left_inj e2
  omega
theorem xor_u8 {u x : Int} (hu : 0 ≤ u ∧ u ≤ 255) (hx : 0 ≤ x ∧ x ≤ 255) : bits .xor .u8 u x = xorB u x := u8_xor u x hu.1 (by omega) hx.1 (by omega)
def One (W : World) (bs : List Int) (v : Value) (w : World) : Prop :=
  ∃ g d, v = .slice (some ⟨g, 0, none⟩) bs.length d ∧ RowB W.heap.size w g bs ∧ Below W.heap.size W w
set_option maxHeartbeats 4000000 in
theorem sbytes_true (A : Option Addr) (ca : Nat) (bs : List Int) (z x : Int) (w : World) (hA : Bytes w.heap.size w A bs) (hs : Short bs) (hz : -9223372036854775808 ≤ z ∧ z ≤ 9223372036854775807) (hx : 0 ≤ x ∧ x ≤ 255) :
    Calls Try.prog 6 #[.slice A bs.length ca, .int .i64 z, .int .u8 x] w fun e w' => e = .returned (.bool true) ∧ Below w.heap.size w w' := by
  have h2 := hs.2
  have HS := Lib.hid hs
  have HA := Lib.hid hA
  clear hA hs
  by_cases hlong : bs.length ≤ 1500 ∧ bs.length ≠ 0 ∧ x ≠ 0
  · obtain ⟨hlong, hne, hx0⟩ := hlong
    have hx1 : 1 ≤ x := by omega
    have hn1 : 1 ≤ bs.length := by omega
    obtain ⟨m, hm, hml⟩ := max_nat z hz
    have hmod : (m : Int) % (bs.length : Int) = ((m % bs.length : Nat) : Int) := rfl
    have hk : m % bs.length < bs.length := Nat.mod_lt _ (by omega)
    generalize m % bs.length = k at hmod hk
    obtain ⟨i0, hi, hz0, hz1, hz2⟩ := info_parts infoByte
    have HI := Lib.hid (And.intro hi (And.intro hz0 (And.intro hz1 hz2)))
    have hu := HS.out.1 bs[k] (List.getElem_mem hk)
    have hxor := xor_u8 hu hx
    have HX := Lib.hid (xorB_byte hu hx)
    have HN := Lib.hid (xor_ne hu hx hx0)
    have HG : Hid (bs[k]? = some bs[k]) := Lib.hid (List.getElem?_eq_getElem hk)
    have HT := Lib.hid (fun (e : sumN [bs] = sumN [bs.set k (xorB bs[k] x)]) => HN.out (sum_set HS.out.1 hk HX.out e))
    generalize bs[k] = u at hu hxor HX HG HT
    generalize hy : xorB u x = y at hxor HX HT
    have hb0 : ((bs.length : Int) == 0) = false := beq_eq_false_iff_ne.2 (by omega)
    have hbx : (x == 0) = false := beq_eq_false_iff_ne.2 (by omega)
    have hdiff : (((sumN [bs] : Nat) : Int) != ((sumN [bs.set k y] : Nat) : Int)) = true := bne_iff_ne.2 (fun e => HT.out (by exact_mod_cast e))
    have HNE : Hid (bs ≠ []) := Lib.hid (fun e => by rw [e] at hn1; simp at hn1)
    clear hi hz0 hz1 hz2 HN hy hne hx0
    go_enter Try.func6, Try.ntmps6
    go_wp2_with (first
      | (go_at_call 13; go_loud (refine (known_true _).mono ?_; rintro e W1 ⟨rfl, hb⟩; have HB1 := Lib.hid hb; have hz1 := hb.size; have HA1 := Lib.hid (HA.out.keep hb (Nat.le_refl _)); clear hb))
      | (at_builtin; go_loud (refine wpList_append_from _ rfl (.tmp 26) (.tmp 27) 22 rfl W1.heap.size 5 i0 _ 1 1 Try.underlying22 HI.out.1 HI.out.2.1 HI.out.2.2.1 HI.out.2.2.2 rfl (by decide) (.slice none 0 0) 0 [] rfl (World.ownsRow_nil _ _ _ _) A bs.length ca (cellsB bs) rfl HA1.out.none (by simp [cellsB]) (cellsB_from HA1.out) (cellsB_one bs) (by unfold maxLen; omega) (by omega) (by simp) ?_; intro v' w1 hown hgrow hat; rw [Nat.zero_add, List.nil_append] at hown; obtain ⟨g, d, rfl, hle, hrow⟩ := own_some hown rfl HNE.out; have HR := Lib.hid hrow; have HB2 := Lib.hid (below_grown hgrow); have hz2 := HB2.out.size; have hg1 := hrow.base; have hg2 := hrow.lt; obtain ⟨hc1, hc2⟩ := hrow.cell HG.out; have HA3 := Lib.hid ((HA1.out.keep HB2.out hz1).far (p := ⟨g, k, none⟩) (Nat.le_trans hz1 hg1) (.int .u8 y)); have HR3 := Lib.hid (hrow.put (k := k) y); clear hgrow hown hrow hat))
      | (go_at_call 14; ((with_reducible refine (sum_one (b := w1.heap.size) _ HA3.out (by simp; omega) HS.out (by simp) rfl).mono ?_); rintro e w4 ⟨rfl, rfl⟩))
      | (go_at_call 14; ((with_reducible refine (sum_one (b := w1.heap.size + 1) _ (HR3.out.bytes.al (by simp; omega) _) (by simp; omega) (short_set HS.out k HX.out) (by simp) (by simp)).mono ?_); rintro e w4 ⟨rfl, rfl⟩)))
    go_ret
    exact ⟨rfl, ((((HB1.out.trans (HB2.out.mono hz1)).setCell (by show _ ≤ g; omega) _).alloc (by simp; omega) _).alloc (by simp; omega) _)⟩
  · have HL := Lib.hid hlong
    by_cases h1 : bs.length ≤ 1500
    · by_cases h3 : bs.length = 0
      · have hb0 : ((bs.length : Int) == 0) = true := by simpa using h3
        clear h3 hlong
        go_enter Try.func6, Try.ntmps6
        go_wp2_with (go_at_call 13; refine (known_true _).mono ?_; rintro e W1 ⟨rfl, hb⟩; have HB1 := Lib.hid hb; clear hb)
        go_ret
        exact ⟨rfl, HB1.out⟩
      · have hb0 : ((bs.length : Int) == 0) = false := beq_eq_false_iff_ne.2 (by omega)
        have hbx : (x == 0) = true := by simp only [beq_iff_eq]; omega
        clear h3 hlong
        go_enter Try.func6, Try.ntmps6
        go_wp2_with (go_at_call 13; refine (known_true _).mono ?_; rintro e W1 ⟨rfl, hb⟩; have HB1 := Lib.hid hb; clear hb)
        go_ret
        exact ⟨rfl, HB1.out⟩
    · clear hlong
      go_enter Try.func6, Try.ntmps6
      go_wp2_with (go_at_call 13; refine (known_true _).mono ?_; rintro e W1 ⟨rfl, hb⟩; have HB1 := Lib.hid hb; clear hb)
      go_ret
      exact ⟨rfl, HB1.out⟩
end Go.Proofs.Ytdagpmmachaeaaa
