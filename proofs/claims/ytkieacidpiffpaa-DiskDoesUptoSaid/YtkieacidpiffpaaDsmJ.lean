/- Both disks, plain: each call keeps the relation, and both answer alike. -/
import Derived.Test.YtkieacidpiffpaaDsmI
namespace Go.Proofs.Ytkieacidpiffpaa
open Go Go.RowKit Go.Shelf
set_option linter.unusedVariables false
set_option linter.unusedSimpArgs false

def R2 (p : Md × Int) (q : Rm × Int) : Prop := Rel p.1 q.1 ∧ p.2 = q.2
theorem R2.mk' {m : Md} {r : Rm} {c : Int} (h : Rel m r) : R2 (m, c) (r, c) := ⟨h, rfl⟩
theorem rel_tick {m : Md} {r : Rm} (h : Rel m r) (h0 : r.left ≠ 0) : Rel m.tick r.tick := by
  unfold Md.tick Rm.tick
  rw [if_neg h0, h.left]
  split
  · exact ⟨h.room, h.full, rfl, fun hd => absurd (h.dead hd) h0, h.perm, h.up⟩
  · exact h
theorem rel_dead {m : Md} {r : Rm} (h : Rel m r) (h0 : r.left = 0) : Rel m r.tick := by
  unfold Rm.tick
  rw [if_pos h0]
  exact ⟨h.room, h.full, h.left, fun _ => h0, h.perm, h.up⟩
theorem rel_call {m : Md} {r : Rm} (h : Rel m r) {g : Md → Md × Int} {g2 : Rm → Rm × Int} (hg : ∀ m' r', Rel m' r' → R2 (g m') (g2 r')) : R2 (m.call g) (r.call g2) := by
  unfold Md.call Rm.call
  rw [h.left]
  by_cases h0 : r.left = 0
  · rw [if_pos h0, if_pos h0]; exact R2.mk' (rel_dead h h0)
  · rw [if_neg h0, if_neg h0]; exact hg _ _ (rel_tick h h0)
theorem rel_upd {m : Md} {r : Rm} (h : Rel m r) {s : ByteArray} {k : Nat} {g : Vw → Vw} (hg : ∀ f, (g f).name = f.name) (hk : idxR r.fs s = some k) : Rel { m with fs := updV m.fs s g } { r with fs := modV r.fs k g } := by
  refine ⟨h.room, h.full, h.left, h.dead, ?_, ?_⟩
  · show (modV r.fs k g).Perm (updV m.fs s g)
    rw [modV_upd g h.up.ap hk]
    exact h.perm.map _
  · show Up (modV r.fs k g)
    rw [modV_upd g h.up.ap hk]
    exact updV_up h.up hg
theorem rel_sync {m : Md} {r : Rm} (h : Rel m r) (s : ByteArray) : R2 (m.sync s) (r.sync s) := rel_call h fun m r h => by
  unfold Md.chg Rm.found
  cases hk : idxR r.fs s with
  | none => rw [h.none hk]; exact R2.mk' h
  | some k =>
    obtain ⟨f, hf, hn, hl⟩ := h.found hk
    rw [hl]
    exact R2.mk' (rel_upd h (fun f => rfl) hk)
theorem rel_cut {m : Md} {r : Rm} (h : Rel m r) (s : ByteArray) (n : Int) : R2 (m.cut s n) (r.cut s n) := rel_call h fun m r h => by
  unfold Md.chg Rm.found
  cases hk : idxR r.fs s with
  | none => rw [h.none hk]; exact R2.mk' h
  | some k =>
    obtain ⟨f, hf, hn, hl⟩ := h.found hk
    rw [hl]
    show R2 (if decide (n < 0 ∨ (f.has.length : Int) < n) = true then (m, 1) else _) (if n < 0 ∨ ((((r.fs[k]?).map fun v => v.has.length).getD 0 : Nat) : Int) < n then (r, 1) else _)
    rw [hf]
    show R2 _ (if n < 0 ∨ (f.has.length : Int) < n then (r, 1) else _)
    by_cases hc : n < 0 ∨ (f.has.length : Int) < n
    · rw [if_pos (decide_eq_true hc), if_pos hc]; exact R2.mk' h
    · rw [if_neg (by simpa using hc), if_neg hc]; exact R2.mk' (rel_upd h (fun f => rfl) hk)
theorem dropR : ∀ {fs : List Vw} {s : ByteArray} {k : Nat}, Ap fs → idxR fs s = some k → fs.take k ++ fs.drop (k + 1) = fs.filter fun f => decide (f.name ≠ s)
  | [], s, k, _, h => by simp [idxR] at h
  | a :: l, s, k, ha, h => by
    obtain ⟨h1, h2⟩ := List.pairwise_cons.1 ha
    by_cases e : a.name = s
    · rw [idxR, if_pos e] at h; cases h
      rw [List.filter_cons_of_neg (by simpa using e)]
      simp only [List.take_zero, List.nil_append, Nat.zero_add, List.drop_succ_cons, List.drop_zero]
      exact (List.filter_eq_self.2 fun f hf => by simpa using fun e2 => h1 f hf (e.trans e2.symm)).symm
    · rw [idxR, if_neg e] at h
      cases h3 : idxR l s with
      | none => rw [h3] at h; cases h
      | some j =>
        rw [h3] at h; cases h
        rw [List.filter_cons_of_pos (by simpa using e), ← dropR h2 h3]
        rfl
theorem rel_drop {m : Md} {r : Rm} (h : Rel m r) (s : ByteArray) : R2 (m.drop s) (r.drop s) := rel_call h fun m r h => by
  unfold Md.drp Rm.found
  cases hk : idxR r.fs s with
  | none => rw [h.none hk]; exact R2.mk' h
  | some k =>
    obtain ⟨f, hf, hn, hl⟩ := h.found hk
    rw [hl]
    refine ⟨⟨h.room, h.full, h.left, h.dead, ?_, ?_⟩, rfl⟩
    · show (r.fs.take k ++ r.fs.drop (k + 1)).Perm (m.fs.filter _)
      rw [dropR h.up.ap hk]; exact h.perm.filter _
    · show Up (r.fs.take k ++ r.fs.drop (k + 1))
      rw [dropR h.up.ap hk]; exact h.up.filter _
theorem ins_up : ∀ {fs : List Vw} (x : Vw), Up fs → (∀ f ∈ fs, f.name ≠ x.name) → Up (fs.take (insR fs x.name) ++ x :: fs.drop (insR fs x.name))
  | [], x, _, _ => by simp [insR, Up]
  | f :: l, x, h, hn => by
    obtain ⟨h1, h2⟩ := List.pairwise_cons.1 h
    by_cases e : nameLt f.name x.name = true
    · have ih := ins_up x h2 fun g hg => hn g (List.mem_cons_of_mem _ hg)
      rw [insR, if_pos e]
      simp only [List.take_succ_cons, List.drop_succ_cons, List.cons_append]
      refine List.pairwise_cons.2 ⟨fun y hy => ?_, ih⟩
      rcases List.mem_append.1 hy with hy | hy
      · exact h1 y (List.mem_of_mem_take hy)
      · rcases List.mem_cons.1 hy with rfl | hy
        · exact (nameLt_is _ _).1 e
        · exact h1 y (List.mem_of_mem_drop hy)
    · rw [insR, if_neg e]
      simp only [List.take_zero, List.drop_zero, List.nil_append]
      have hlt : nmL x.name < nmL f.name := lt_of (fun h3 => e ((nameLt_is _ _).2 h3)) (hn f List.mem_cons_self)
      refine List.pairwise_cons.2 ⟨fun y hy => ?_, h⟩
      rcases List.mem_cons.1 hy with rfl | hy
      · exact hlt
      · exact List.lt_trans hlt (h1 y hy)
theorem rel_append {m : Md} {r : Rm} (h : Rel m r) (s : ByteArray) (bs : List Int) : R2 (m.append s bs) (r.append s bs) := by
  unfold Md.append Md.call Rm.append
  rw [h.left]
  by_cases h0 : r.left = 0
  · rw [if_pos h0, if_pos (.inl h0)]; exact R2.mk' (rel_dead h h0)
  · rw [if_neg h0]
    have ht := rel_tick h h0
    have e1 : r.tick.fs = r.fs := by unfold Rm.tick; split; rfl; split <;> rfl
    have e2 : r.tick.on = r.on := by unfold Rm.tick; split; rfl; split <;> rfl
    have e3 : r.tick.room = r.room := by unfold Rm.tick; split; rfl; split <;> rfl
    rw [← e1, ← e2, ← e3]
    generalize r.tick = r' at ht
    generalize m.tick = m' at ht
    show R2 (m'.app s bs) _
    unfold Md.app
    have hc' : (m'.full = true ∨ m'.room < sizes m'.fs + bs.length) ↔ (r'.on = true ∨ r'.room < sizes r'.fs + bs.length) := by rw [ht.full, ht.room, ← ht.sizes]
    by_cases hc : r'.on = true ∨ r'.room < sizes r'.fs + bs.length
    · rw [if_pos (hc'.2 hc), if_pos (show r.left = 0 ∨ r'.on = true ∨ r'.room < sizes r'.fs + bs.length from .inr hc)]; exact R2.mk' ht
    · rw [if_neg (fun h => hc (hc'.1 h)), if_neg (show ¬ (r.left = 0 ∨ r'.on = true ∨ r'.room < sizes r'.fs + bs.length) from fun h => h.elim h0 hc)]
      cases hk : idxR r'.fs s with
      | some k =>
        obtain ⟨f, hf, hn, hl⟩ := ht.found hk
        rw [hl]
        exact R2.mk' (rel_upd ht (g := addV bs) (fun f => rfl) hk)
      | none =>
        rw [ht.none hk]
        have hz' : (64 ≤ m'.fs.length ∨ s.size = 0 ∨ 30 < s.size) ↔ (64 ≤ r'.fs.length ∨ s.size = 0 ∨ 30 < s.size) := by rw [ht.len]
        by_cases hz : 64 ≤ r'.fs.length ∨ s.size = 0 ∨ 30 < s.size
        · show R2 (if _ then _ else _) (if _ then _ else _)
          rw [if_pos (hz'.2 hz), if_pos hz]; exact R2.mk' ht
        · show R2 (if _ then _ else _) (if _ then _ else _)
          rw [if_neg (fun h => hz (hz'.1 h)), if_neg hz]
          refine ⟨⟨ht.room, ht.full, ht.left, ht.dead, ?_, ?_⟩, rfl⟩
          · show (r'.fs.take (insR r'.fs s) ++ ⟨s, bs, 0⟩ :: r'.fs.drop (insR r'.fs s)).Perm (m'.fs ++ [⟨s, bs, 0⟩])
            refine List.perm_middle.trans ?_
            rw [List.take_append_drop]
            exact (ht.perm.cons _).trans (List.perm_append_singleton _ _).symm
          · exact ins_up ⟨s, bs, 0⟩ ht.up (idxR_no hk)
theorem rel_crash {m : Md} {r : Rm} (h : Rel m r) (k : Int) : Rel (m.crash k) (r.crash k) :=
  ⟨h.room, rfl, rfl, fun e => absurd e (by simp [Rm.crash]), h.perm.map _, by
    show Up (r.fs.map (crashV k))
    unfold Up
    rw [List.pairwise_map]
    exact h.up.imp fun h1 => h1⟩
theorem rel_halt {m : Md} {r : Rm} (h : Rel m r) (n : Int) : Rel (m.halt n) (r.halt n) :=
  ⟨h.room, h.full, rfl, fun e => (by
    have e0 : n = 0 := by simpa [Rm.halt] using e
    show max n (-1) = 0
    omega), h.perm, h.up⟩
theorem rel_full {m : Md} {r : Rm} (h : Rel m r) (b : Bool) : Rel { m with full := b } { r with on := b } := ⟨h.room, rfl, h.left, h.dead, h.perm, h.up⟩
theorem rel_read {m : Md} {r : Rm} (h : Rel m r) (s : ByteArray) : readB m s = rreadB r s ∧ readC m s = rreadC r s := by
  unfold readB rreadB readC rreadC
  cases hk : idxR r.fs s with
  | none => rw [h.none hk]; exact ⟨rfl, rfl⟩
  | some k =>
    obtain ⟨f, hf, hn, hl⟩ := h.found hk
    rw [hl]
    exact ⟨by show f.has = match r.fs[k]? with | none => [] | some v => v.has; rw [hf], rfl⟩
theorem rel_halted {m : Md} {r : Rm} (h : Rel m r) : (r.dead || decide (r.left = 0)) = decide (m.left = 0) := by
  rw [h.left]
  cases hd : r.dead with
  | false => rfl
  | true => rw [decide_eq_true (h.dead hd)]; rfl
theorem rel_does {m : Md} {r : Rm} (h : Rel m r) (x : OpG) : Rel (doM m x) (doR r x) ∧ doAg m r x := by
  unfold doM doR doAg
  have hr := rel_read h x.name
  split
  · exact rel_sync h x.name
  · split
    · exact rel_cut h x.name x.n
    · split
      · exact rel_drop h x.name
      · split
        · exact ⟨h, by rw [hr.1], hr.2⟩
        · split
          · exact ⟨rel_crash h x.n, trivial⟩
          · split
            · exact ⟨rel_full h _, trivial⟩
            · split
              · exact ⟨rel_halt h x.n, trivial⟩
              · exact rel_append h x.name x.bs
theorem rel_new (room : Nat) : Rel ⟨room, false, -1, []⟩ ⟨room, [], false, -1, false⟩ := ⟨rfl, rfl, rfl, fun e => absurd e (by simp), List.Perm.nil, List.Pairwise.nil⟩
theorem rel_names {m : Md} {r : Rm} (h : Rel m r) : nmS m.fs = r.fs.map fun f => nmL f.name := by
  unfold nmS
  have p : (m.fs.map fun f => nmL f.name).Perm (r.fs.map fun f => nmL f.name) := (h.perm.symm.map _)
  have hs : (r.fs.map fun f => nmL f.name).Pairwise (· ≤ ·) := by
    rw [List.pairwise_map]
    exact h.up.imp fun h1 => List.le_of_lt h1
  have h2 := List.pairwise_mergeSort (le := fun x y => decide (x ≤ y)) (fun a b c h1 h2 => decide_eq_true (List.le_trans (of_decide_eq_true h1) (of_decide_eq_true h2))) (fun a b => by
    rcases List.le_total a b with h | h
    · simp [h]
    · simp [h]) (m.fs.map fun f => nmL f.name)
  have h3 := (List.mergeSort_perm (m.fs.map fun f => nmL f.name) fun x y => decide (x ≤ y)).trans p
  exact h3.eq_of_pairwise (fun a b _ _ h1 h2 => List.le_antisymm h1 h2) (h2.imp fun h => of_decide_eq_true h) hs
end Go.Proofs.Ytkieacidpiffpaa
