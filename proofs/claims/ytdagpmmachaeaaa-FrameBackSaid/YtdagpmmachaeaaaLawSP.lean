/- SumParts, the Go function: it comes out true. -/
import Derived.Test.YtdagpmmachaeaaaLawSE
import Derived.Test.YtdagpmmachaeaaaSlc
import Derived.Deep.RegionHeld3
namespace Go.Proofs.Ytdagpmmachaeaaa
open Go Go.RowKit
set_option linter.unusedVariables false
set_option linter.unusedSimpArgs false

theorem Bytes.dr {hi : Nat} {W : World} {A : Option Addr} {bs : List Int} (h : Bytes hi W A bs) : Bytes hi W.drew A bs := h
/-- A list of lists in a block of which the cells are told. -/
theorem lists_one {hi b : Nat} {W : World} {A : Option Addr} {n c : Nat} {bs : List Int} (h0 : W.cell? ⟨b, 0, none⟩ = some (.slice A n c)) (h1 : Bytes hi W A bs) (hn : n = bs.length) (hb : b < W.heap.size) (hh : hi ≤ W.heap.size) :
    Lists W.heap.size W (some ⟨b, 0, none⟩) [bs] := by
  subst hn
  refine fun _ => ⟨b, 0, rfl, hb, fun i l hl => ?_⟩
  match i, hl with
  | 0, hl => cases hl; exact ⟨A, c, h0, h1.up hh⟩
  | i + 1, hl => simp at hl
theorem lists_four {hi b : Nat} {W : World} {A B C D : Option Addr} {n m k q c1 c2 c3 c4 : Nat} {as_ bs cs ds : List Int} (h0 : W.cell? ⟨b, 0, none⟩ = some (.slice A n c1)) (h1 : W.cell? ⟨b, 1, none⟩ = some (.slice B m c2)) (h2 : W.cell? ⟨b, 2, none⟩ = some (.slice C k c3)) (h3 : W.cell? ⟨b, 3, none⟩ = some (.slice D q c4))
    (g0 : Bytes hi W A as_) (g1 : Bytes hi W B bs) (g2 : Bytes hi W C cs) (g3 : Bytes hi W D ds) (hn : n = as_.length) (hm : m = bs.length) (hk : k = cs.length) (hq : q = ds.length) (hb : b < W.heap.size) (hh : hi ≤ W.heap.size) :
    Lists W.heap.size W (some ⟨b, 0, none⟩) [as_, bs, cs, ds] := by
  subst hn hm hk hq
  refine fun _ => ⟨b, 0, rfl, hb, fun i l hl => ?_⟩
  match i, hl with
  | 0, hl => cases hl; exact ⟨A, _, h0, g0.up hh⟩
  | 1, hl => cases hl; exact ⟨B, _, h1, g1.up hh⟩
  | 2, hl => cases hl; exact ⟨C, _, h2, g2.up hh⟩
  | 3, hl => cases hl; exact ⟨D, _, h3, g3.up hh⟩
  | i + 4, hl => simp at hl
theorem small_of {ls : List (List Int)} (hl : ls.length ≤ 9223372036854775807) (h : ∀ l ∈ ls, Short l) : Small ls := ⟨hl, fun l hm => h l hm⟩
theorem short_take {bs : List Int} (h : Short bs) (k : Nat) : Short (bs.take k) := ⟨h.1.take k, by have := h.2; simp; omega⟩
theorem short_drop {bs : List Int} (h : Short bs) (k : Nat) : Short (bs.drop k) := ⟨h.1.drop k, by have := h.2; simp; omega⟩
theorem short_nil : Short [] := ⟨fun _ h => by simp at h, by simp⟩
theorem small_parts {bs : List Int} (h : Short bs) (a b c d e f : Nat) : Small [(bs.take a).drop b, (bs.take c).drop d, [], (bs.take e).drop f] := by
  refine small_of (by simp) fun l hm => ?_
  simp only [List.mem_cons, List.not_mem_nil, or_false] at hm
  rcases hm with rfl | rfl | rfl | rfl
  · exact short_drop (short_take h _) _
  · exact short_drop (short_take h _) _
  · exact short_nil
  · exact short_drop (short_take h _) _
theorem sum_one_at {hi b : Nat} {W : World} (A : Option Addr) (c : Nat) (bs : List Int) (h0 : W.cell? ⟨b, 0, none⟩ = some (.slice A bs.length c)) (h1 : Bytes hi W A bs) (hb : b < W.heap.size) (hh : hi ≤ W.heap.size) (hs : Short bs) :
    Calls Try.prog 14 #[.slice (some ⟨b, 0, none⟩) 1 1] W fun e w' => e = .returned (.int .u32 (sumN [bs])) ∧ W = w' :=
  sum_any _ _ 1 [bs] _ (lists_one h0 h1 rfl hb hh) (small_one hs)
theorem sum_parts_at {hi b ca n q : Nat} {W : World} (A : Option Addr) (bs : List Int) (h0 : W.cell? ⟨b, 0, none⟩ = some (.slice (cutAt A 0 ca) n ca)) (h1 : W.cell? ⟨b, 1, none⟩ = some (.slice (cutAt A n ca) q (ca - n))) (h2 : W.cell? ⟨b, 2, none⟩ = some (.slice none 0 0)) (h3 : W.cell? ⟨b, 3, none⟩ = some (.slice (cutAt A (n + q) ca) (bs.length - (n + q)) (ca - (n + q))))
    (hB : Bytes hi W A bs) (hb : b < W.heap.size) (hh : hi ≤ W.heap.size) (hs : Short bs) (hq : n + q ≤ bs.length) (hc : bs.length ≤ ca) :
    Calls Try.prog 14 #[.slice (some ⟨b, 0, none⟩) 4 4] W fun e w' => e = .returned (.int .u32 (sumN [(bs.take n).drop 0, (bs.take (n + q)).drop n, [], (bs.take bs.length).drop (n + q)])) ∧ W = w' :=
  sum_any _ _ 4 [(bs.take n).drop 0, (bs.take (n + q)).drop n, [], (bs.take bs.length).drop (n + q)] _
    (lists_four h0 h1 h2 h3 (cutAt_bytes hB (Nat.zero_le _) (by omega) hc) (cutAt_bytes hB (by omega) (by omega) hc) (Bytes.nil _ _ _) (cutAt_bytes hB (by omega) (Nat.le_refl _) hc) (by simp; omega) (by simp; omega) rfl (by simp) hb hh) (small_parts hs _ _ _ _ _ _)
set_option maxHeartbeats 4000000 in
theorem sparts_true (A : Option Addr) (ca : Nat) (bs : List Int) (i j : Int) (w : World) (hA : Bytes w.heap.size w A bs) (hs : Short bs) (hi : -9223372036854775808 ≤ i ∧ i ≤ 9223372036854775807) (hj : -9223372036854775808 ≤ j ∧ j ≤ 9223372036854775807) (hca : bs.length ≤ ca) :
    Calls Try.prog 5 #[.slice A bs.length ca, .int .i64 i, .int .i64 j] w fun e w' => e = .returned (.bool true) ∧ Below w.heap.size w w' := by
  have h2 := hs.2
  have HS := Lib.hid hs
  have HA := Lib.hid hA
  clear hA hs
  by_cases hl : bs.length ≤ 1500
  · obtain ⟨m1, hm1, hml1⟩ := max_nat i hi
    obtain ⟨m2, hm2, hml2⟩ := max_nat j hj
    have hmod1 : (m1 : Int) % ((bs.length : Int) + 1) = ((m1 % (bs.length + 1) : Nat) : Int) := rfl
    have hn : m1 % (bs.length + 1) < bs.length + 1 := Nat.mod_lt _ (by omega)
    generalize m1 % (bs.length + 1) = n at hmod1 hn
    have hmod2 : (m2 : Int) % ((bs.length : Int) - (n : Int) + 1) = ((m2 % (bs.length - n + 1) : Nat) : Int) := by
      rw [show ((bs.length : Int) - (n : Int) + 1) = ((bs.length - n + 1 : Nat) : Int) by omega]; rfl
    have hq : m2 % (bs.length - n + 1) < bs.length - n + 1 := Nat.mod_lt _ (by omega)
    generalize m2 % (bs.length - n + 1) = q at hmod2 hq
    have hc1 := run_h A bs.length ca n (by omega)
    have hc2 : ∀ W, (Instr.slice 22 (.slice A bs.length ca) (some (.int .i64 n)) (some (.int .i64 ((n : Int) + (q : Int)))) none).run Try.prog W = .ok (.slice (cutAt A n ca) (n + q - n) (ca - n)) W := run_lh A bs.length ca n (n + q) (by omega) (by omega)
    have hc3 : ∀ W, (Instr.slice 22 (.slice A bs.length ca) (some (.int .i64 ((n : Int) + (q : Int)))) none none).run Try.prog W = .ok (.slice (cutAt A (n + q) ca) (bs.length - (n + q)) (ca - (n + q))) W := run_l A bs.length ca (n + q) (by omega)
    have HE : Hid (sumN [bs] = sumN [(bs.take n).drop 0, (bs.take (n + q)).drop n, [], (bs.take bs.length).drop (n + q)]) := Lib.hid (sumN_flat (by
      simp only [List.flatten_cons, List.flatten_nil, List.append_nil, List.drop_zero, List.take_length, List.nil_append]
      rw [← List.append_assoc, show bs.take n = (bs.take (n + q)).take n by rw [List.take_take]; congr 1; omega, List.take_append_drop, List.take_append_drop]))
    have heq : (((sumN [bs] : Nat) : Int) == ((sumN [(bs.take n).drop 0, (bs.take (n + q)).drop n, [], (bs.take bs.length).drop (n + q)] : Nat) : Int)) = true := by rw [HE.out]; simp
    go_enter Try.func5, Try.ntmps5
    go_wp2_with (go_at_call 13; refine (known_true _).mono ?_; rintro e W1 ⟨rfl, hb⟩; have HB1 := Lib.hid hb; have hz1 := hb.size; have HA1 := Lib.hid (HA.out.keep hb (Nat.le_refl _)); clear hb)
    rw [hmod1]
    go_region_with (first
      | (go_at_call 14; ((with_reducible refine (sum_one_at (hi := w.heap.size) A ca bs ?hc ?hB ?hb ?hh HS.out).mono ?_); (case hc => first | (simp; done) | exact ((Whole.new W1 22 _).alloc _).cell 0); (case hB => first | exact (HA1.out.al hz1 _).dr | exact ((HA1.out.al hz1 _).al (by simp; omega) _).dr); (case hb => first | (simp; done) | (simp; omega)); (case hh => simp; omega); rintro e w4 ⟨rfl, rfl⟩))
      | (go_at_call 14; ((with_reducible refine (sum_parts_at (hi := w.heap.size) (ca := ca) (n := n) (q := q) A bs ?h0 ?h1 ?h2 ?h3 ?hB ?hb ?hh HS.out (by omega) hca).mono ?_); (case h0 => first | (simp; done) | exact ((Whole.new W1 22 _).alloc _).cell 0); (case h1 => first | (simp; done) | exact ((Whole.new W1 22 _).alloc _).cell 1); (case h2 => first | (simp; done) | exact ((Whole.new W1 22 _).alloc _).cell 2); (case h3 => first | (simp; done) | exact ((Whole.new W1 22 _).alloc _).cell 3); (case hB => first | exact (HA1.out.al hz1 _).dr | exact ((HA1.out.al hz1 _).al (by simp; omega) _).dr); (case hb => first | (simp; done) | (simp; omega)); (case hh => simp; omega); rintro e w4 ⟨rfl, rfl⟩)))
    all_goals (go_wp2; go_ret; exact ⟨by have h := HE.out; simp at h; simp [Act.put, h], by first | exact ((HB1.out.alloc hz1 _).drew).alloc (by simp; omega) _ | exact ((HB1.out.alloc hz1 _).alloc (by simp; omega) _).drew⟩)
  · go_enter Try.func5, Try.ntmps5
    go_wp2_with (go_at_call 13; refine (known_true _).mono ?_; rintro e W1 ⟨rfl, hb⟩; have HB1 := Lib.hid hb; clear hb)
    go_ret
    exact ⟨rfl, HB1.out⟩
end Go.Proofs.Ytdagpmmachaeaaa
