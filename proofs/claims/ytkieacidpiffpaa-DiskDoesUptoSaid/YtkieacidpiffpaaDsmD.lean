/- The document's own disk: Crash. -/
import Derived.Test.YtkieacidpiffpaaDsmC
namespace Go.Proofs.Ytkieacidpiffpaa
open Go Go.RowKit Go.Shelf
set_option linter.unusedVariables false
set_option linter.unusedSimpArgs false

theorem rset_at {w : World} {r : Rk} (h : RkAt w r) {k m q : Nat} {f : Rf} (hi : r.fs[k]? = some f) {g : Nat} {c : Nat} (hF : r.F = .slice (some ⟨g, 0, none⟩) r.fs.length c) (hm : m ≤ f.vw.has.length) (hq : q ≤ m) :
    RkAt ((w.setCell ⟨g, k * 3 + 1, none⟩ (.slice f.A m f.c)).setCell ⟨g, k * 3 + 2, none⟩ (.int .i64 (q : Nat))) { r with fs := r.fs.set k ⟨⟨f.vw.name, f.vw.has.take m, q⟩, f.A, f.c⟩ } ∧ Kp r.own w ((w.setCell ⟨g, k * 3 + 1, none⟩ (.slice f.A m f.c)).setCell ⟨g, k * 3 + 2, none⟩ (.int .i64 (q : Nat))) ∧
      ∀ i, ({ r with fs := r.fs.set k ⟨⟨f.vw.name, f.vw.has.take m, q⟩, f.A, f.c⟩ } : Rk).own i → r.own i := by
  have hmem := List.mem_of_getElem? hi
  have hlt : k < r.fs.length := (List.getElem?_eq_some_iff.1 hi).1
  have hrow := h.row
  rw [hF] at hrow
  have hml : (f.vw.has.take m).length = m := by rw [List.length_take]; omega
  obtain ⟨h1, h2⟩ := hrow.stored (k * 3 + 1) (.slice f.A m f.c)
  rw [show (Value.slice f.A m f.c) = .slice f.A (f.vw.has.take m).length f.c by rw [hml], cellsF_set1 (f.vw.has.take m) f.A f.c hi, hml] at h1
  obtain ⟨h3, h4⟩ := h1.stored (k * 3 + 2) (.int .i64 (q : Nat))
  rw [cellsF_set2 (f := ⟨{ f.vw with has := f.vw.has.take m }, f.A, f.c⟩) q (by rw [List.getElem?_set_self hlt]), List.set_set] at h3
  have hsz := sizes_set ⟨f.vw.name, f.vw.has.take m, q⟩ (rvs_get hi)
  have hst : ∀ i, r.F.ownBlock ≠ some i → ((w.setCell ⟨g, k * 3 + 1, none⟩ (.slice f.A m f.c)).setCell ⟨g, k * 3 + 2, none⟩ (.int .i64 (q : Nat))).heap[i]? = w.heap[i]? := fun i hne => by
    have hne2 : i ≠ g := fun e => hne (by rw [hF, e]; rfl)
    exact (Below.heap_setCell _ _ _ _ hne2).trans (Below.heap_setCell _ _ _ _ hne2)
  have hat := h.set (f' := ⟨⟨f.vw.name, f.vw.has.take m, q⟩, f.A, f.c⟩) hi (w' := (w.setCell ⟨g, k * 3 + 1, none⟩ (.slice f.A m f.c)).setCell ⟨g, k * 3 + 2, none⟩ (.int .i64 (q : Nat))) (by rw [hF]; exact h3) (fun i _ hne => hst i hne)
    (((h.bytes f hmem).of_eq fun i hne ha => hst i fun e => (h.at_lt hmem ⟨hne, ha⟩).2 (.inr e)).take m) (by show (f.vw.has.take m).length ≤ f.c; have := h.cap f hmem; omega) (by show q ≤ (f.vw.has.take m).length; omega) ((h.byte f hmem).take m) (h.name f hmem)
    (by have := h.used; have e : (⟨f.vw.name, f.vw.has.take m, q⟩ : Vw).has.length = m := hml; show sizes ((rvs r.fs).set k ⟨f.vw.name, f.vw.has.take m, q⟩) ≤ _; omega)
  refine ⟨hat, ((Kp.setCell (own := r.own) w ⟨g, k * 3 + 1, none⟩ (.slice f.A m f.c) (.inl (.inr (by rw [hF]; rfl)))).trans (Kp.setCell (own := r.own) _ ⟨g, k * 3 + 2, none⟩ (.int .i64 (q : Nat)) (.inl (.inr (by rw [hF]; rfl)))) fun i hi => .inl hi), fun i hi2 => ?_⟩
  rcases hi2 with hi2 | ⟨x, hx, hi2⟩
  · exact .inl hi2
  · rcases List.mem_or_eq_of_mem_set hx with hx | rfl
    · exact .inr ⟨x, hx, hi2⟩
    · exact .inr ⟨f, hmem, ⟨fun e => hi2.1 (by show f.vw.has.take m = []; rw [e, List.take_nil]), hi2.2⟩⟩
def Rm.crash (m : Rm) (k : Int) : Rm := { m with fs := m.fs.map (crashV k), on := false, left := -1, dead := false }
structure CrS (r : Rk) (w : World) (k : Int) (j : Nat) (fs : List Rf) (W : World) : Prop where
  at_ : RkAt W { r with fs := fs }
  vs : rvs fs = ((rvs r.fs).take j).map (crashV k) ++ (rvs r.fs).drop j
  len : fs.length = r.fs.length
  kp : Kp r.own w W
  own : ∀ i, ({ r with fs := fs } : Rk).own i → r.own i
theorem CrS.next {r : Rk} {w W : World} {k : Int} {j : Nat} {fs : List Rf} {f : Rf} (h : CrS r w k j fs W) (hf : fs[j]? = some f) {g c : Nat} (hF : r.F = .slice (some ⟨g, 0, none⟩) fs.length c) :
    CrS r w k (j + 1) (fs.set j ⟨crashV k f.vw, f.A, f.c⟩) ((W.setCell ⟨g, j * 3 + 1, none⟩ (.slice f.A (lastsV k f.vw) f.c)).setCell ⟨g, j * 3 + 2, none⟩ (.int .i64 (lastsV k f.vw : Nat))).drew := by
  have hl := lastsV_is (k := k) (h.at_.lasts f (List.mem_of_getElem? hf))
  obtain ⟨h1, h2, h3⟩ := rset_at h.at_ (k := j) (m := lastsV k f.vw) (q := lastsV k f.vw) hf hF hl.2.1 (Nat.le_refl _)
  have hjl : j < fs.length := (List.getElem?_eq_some_iff.1 hf).1
  have hv := rvs_get hf
  refine ⟨RkAt.keep (r := { r with fs := fs.set j ⟨crashV k f.vw, f.A, f.c⟩ }) h1 fun _ _ => rfl, ?_, by rw [List.length_set]; exact h.len, (h.kp.trans h2 fun i hi => .inl (h.own i hi)).trans (Kp.drew r.own _) fun i hi => .inl hi, fun i hi => h.own i (h3 i hi)⟩
  have hlen : (((rvs r.fs).take j).map (crashV k)).length = j := by
    rw [List.length_map, List.length_take]; unfold rvs; rw [List.length_map]; have := h.len; omega
  have hjr : j < (rvs r.fs).length := by unfold rvs; rw [List.length_map]; have := h.len; omega
  rw [rvs_set, h.vs]
  rw [h.vs, List.getElem?_append_right (by omega), hlen, Nat.sub_self, List.getElem?_drop] at hv
  rw [List.set_append_right _ _ (by omega), hlen, Nat.sub_self]
  have hd : (rvs r.fs).drop j = (rvs r.fs)[j] :: (rvs r.fs).drop (j + 1) := List.drop_eq_getElem_cons hjr
  rw [Nat.add_zero, List.getElem?_eq_getElem hjr] at hv
  have hv2 := Option.some.inj hv
  rw [hd, List.set_cons_zero, List.take_add_one, List.getElem?_eq_getElem hjr, hv2]
  simp
set_option maxRecDepth 100000 in
set_option maxHeartbeats 2000000 in
theorem rcrash_any {w : World} {r : Rk} (h : RkAt w r) (k : Int) (hk : -9223372036854775808 ≤ k ∧ k ≤ 9223372036854775807) : Calls Try.prog 42 #[.pointer (some ⟨r.B, 0, none⟩), .int .i64 k] w fun e w' =>
    e = .returned (.tuple #[]) ∧ ∃ r', RkAt w' r' ∧ r'.rm = r.rm.crash k ∧ r'.B = r.B ∧ Kp r.own w w' ∧ ∀ i, r'.own i → r.own i := by
  obtain ⟨A, c, hF, c0, c1, c2, c3, c4, cf⟩ := h.shape
  have H := Lib.hid h
  have hm := h.many
  obtain ⟨n, hn⟩ : ∃ n, n = r.fs.length := ⟨_, rfl⟩
  rw [← hn] at hm
  have HN := Lib.hid hn
  have HF := Lib.hid hF
  clear c0 c1 c2 c3 c4 cf h hF hn
  go_enter Try.func42, Try.ntmps42
  go_wp2
  go_loopw [4] (fun i W => ∃ (j : Nat) (fs : List Rf), j ≤ n ∧ i = .int .i64 j ∧ CrS r w k j fs W) (fun i _ => n - (intOf i).toNat)
  case atStart => exact ⟨0, r.fs, Nat.zero_le _, rfl, ⟨H.out, by simp, rfl, Kp.refl _ _, fun i hi => hi⟩⟩
  case round =>
    obtain ⟨j, fs, hj, rfl, hst⟩ := hrel
    have HS := Lib.hid hst
    have q1 : wr.cell? ⟨r.B, 1, none⟩ = some (.slice A n c) := by
      have := hst.at_.box.cell 1
      rw [this]
      show some r.F = _
      rw [HF.out, HN.out]
    have qf := fun i => hst.at_.box.frozen i
    clear hst
    by_cases hlt : j < n
    · have hjl : j < fs.length := by have := HN.out; have := HS.out.len; omega
      obtain ⟨f, hf⟩ : ∃ f, fs[j]? = some f := ⟨_, List.getElem?_eq_getElem hjl⟩
      have hla := HS.out.at_.lasts f (List.mem_of_getElem? hf)
      have hcap := HS.out.at_.cap f (List.mem_of_getElem? hf)
      have hlen := HS.out.at_.len (List.mem_of_getElem? hf)
      obtain ⟨l1, l2, l3⟩ := lastsV_is (k := k) hla
      obtain ⟨g, c', hF2, t1, f0, f1, f2, ff, hg⟩ := HS.out.at_.file hf
      have t2 : wr.cell? ⟨r.B, 1, none⟩ = some (.slice (some ⟨g, 0, none⟩) fs.length c') := t1
      rw [q1] at t2
      simp only [Option.some.injEq, Value.slice.injEq] at t2
      obtain ⟨rfl, _, rfl⟩ := t2
      have HNX := Lib.hid (HS.out.next hf hF2)
      have e1 := ff (j * 3 + 1)
      have e2 := ff (j * 3 + 2)
      have hg1 : g ≠ r.B := hg
      have hg2 := Ne.symm hg1
      obtain ⟨m, hm⟩ : ∃ m, m = lastsV k f.vw := ⟨_, rfl⟩
      rw [← hm] at l1 l2 l3 HNX
      have hsl := fun W => run_h f.A f.vw.has.length f.c m (by omega) W
      by_cases h0 : 0 < k
      · have d0 : decide (0 < k) = true := decide_eq_true h0
        have b1 : -9223372036854775808 ≤ (f.vw.has.length : Int) - f.vw.lasts ∧ (f.vw.has.length : Int) - f.vw.lasts ≤ 9223372036854775807 := by omega
        have b2 : IntKind.i64.wrap ((f.vw.has.length : Int) - f.vw.lasts) = (f.vw.has.length : Int) - f.vw.lasts := by rw [IntKind.wrap_i64]; omega
        have b4 : (f.vw.lasts : Int) + min k ((f.vw.has.length : Int) - f.vw.lasts) = m := by rw [l1]; omega
        have b3 : IntKind.i64.wrap ((f.vw.lasts : Int) + min k ((f.vw.has.length : Int) - f.vw.lasts)) = m := by rw [b4, IntKind.wrap_i64]; omega
        have HL := Lib.hid (And.intro l1 (And.intro l2 l3))
        clear hF2 t1 f0 ff hg hla hcap l1 l2 l3 hm hjl hf hk
        go_upto_region 6 with fail
        go_region
        all_goals go_wp2
        all_goals (rw [cutAt_zero])
        all_goals go_roundw
        case rel => exact ⟨j + 1, _, by omega, by go_num, HNX.out⟩
        case measure => simp [intOf]; omega
      · have d0 : decide (0 < k) = false := decide_eq_false h0
        have b4 : (f.vw.lasts : Int) = m := by rw [l1]; omega
        have b5 : f.vw.lasts = m := by omega
        rw [b5] at f2
        clear hF2 t1 f0 ff hg hla hcap l1 l2 l3 hm hjl hf hk
        go_upto_region 6 with fail
        go_region
        all_goals go_wp2
        all_goals (rw [cutAt_zero])
        all_goals go_roundw
        case rel => exact ⟨j + 1, _, by omega, by go_num, HNX.out⟩
        case measure => simp [intOf]; omega
    · obtain rfl : j = n := by omega
      have hx := HS.out.at_
      have hv : rvs fs = (rvs r.fs).map (crashV k) := by
        have h1 := HS.out.vs
        rw [List.take_of_length_le (by unfold rvs; rw [List.length_map]; have := HN.out; omega), List.drop_of_length_le (by unfold rvs; rw [List.length_map]; have := HN.out; omega), List.append_nil] at h1
        exact h1
      have p1 := hx.put false r.left r.dead hx.left (i := 2) (u := .bool false) rfl
      have p2 := p1.put false (-1) r.dead (by omega) (i := 3) (u := .int .i64 (-1)) rfl
      have p3 := p2.put false (-1) false (by omega) (i := 4) (u := .bool false) rfl
      have o2 := qf 2
      have o3 := qf 3
      have o4 := qf 4
      have b2 := hx.box.cell 2
      have b3 := hx.box.cell 3
      have b4 := hx.box.cell 4
      have HP := Lib.hid (And.intro p3 (And.intro hv (((HS.out.kp.trans (Kp.setCell (own := r.own) _ ⟨r.B, 2, none⟩ (.bool false) (.inl (.inl rfl))) fun i hi => .inl hi).trans (Kp.setCell (own := r.own) _ ⟨r.B, 3, none⟩ (.int .i64 (-1)) (.inl (.inl rfl))) fun i hi => .inl hi).trans (Kp.setCell (own := r.own) _ ⟨r.B, 4, none⟩ (.bool false) (.inl (.inl rfl))) fun i hi => .inl hi)))
      clear hx hv p1 p2 p3 hlt hj
      replace b2 : wr.cell? ⟨r.B, 2, none⟩ = some (.bool r.on) := b2
      replace b3 : wr.cell? ⟨r.B, 3, none⟩ = some (.int .i64 r.left) := b3
      replace b4 : wr.cell? ⟨r.B, 4, none⟩ = some (.bool r.dead) := b4
      replace o2 : wr.frozen? ⟨r.B, 2, none⟩ = false := o2
      replace o3 : wr.frozen? ⟨r.B, 3, none⟩ = false := o3
      replace o4 : wr.frozen? ⟨r.B, 4, none⟩ = false := o4
      clear qf
      go_wp2
      go_end0
      refine ⟨rfl, _, HP.out.1, ?_, rfl, HP.out.2.2, fun i hi => HS.out.own i hi⟩
      show Rm.mk _ (rvs fs) _ _ _ = Rm.mk _ _ _ _ _
      rw [HP.out.2.1]; rfl
end Go.Proofs.Ytkieacidpiffpaa
