/- json's reader: one item of a list. -/
import Derived.Test.YtmmjkhkcffgeiaaDoorRdP
import Derived.Test.YtmmjkhkcffgeiaaDoorTill
namespace Go.Proofs.YtmmjkhkcffgeiaaDoor
open Go Go.RowKit Go.Shelf

set_option maxHeartbeats 8000000 in
set_option maxRecDepth 100000 in
theorem one_yes (m R : Nat) (s : ByteArray) (i d : Nat) (W0 : World) (l : List GV) (W : World) (hI : LInv W0 R l W) (hA : At W R s i d) (hlen : l.length ≤ s.size) (hy : ∃ g r, VAt m (rest s i) g r)
    (hval : ∀ W1, Rd R W W1 → At W1 R s i d → Calls Tryd.prog 42 #[.pointer (some ⟨R, 0, none⟩)] W1 (ROut m R s i d W1)) :
    Calls Tryd.prog 82 #[.pointer (some ⟨W0.heap.size + 2, 0, none⟩), .pointer (some ⟨W0.heap.size, 0, none⟩)] W (OneOut (ItmV m) R s (LInv W0 R) W0 l i d) := by
  obtain ⟨vL, xs, hv, hown, hrow⟩ := hI.val
  obtain ⟨AL, cL, rfl⟩ := own_form hown
  have hb0 : W.drew.cell? ⟨W0.heap.size, 0, none⟩ = some (.pointer (some ⟨R, 0, none⟩)) := (hI.box.cell 0).trans rfl
  have hv3 : W.drew.cell? ⟨W0.heap.size + 2, 3, none⟩ = some (.slice AL l.length cL) := (hv.cell 3).trans rfl
  have hmax := hA.max
  have hk0 : (0 : Int) ≤ (l.length : Int) := by omega
  have hk1 : (l.length : Int) < ((l.length + 1 : Nat) : Int) := by omega
  have hk2 : (l.length : Int) < (l.length : Int) + 1 := by omega
  have HV := Lib.hid hval
  have HI := Lib.hid (And.intro hI (And.intro hA (And.intro hv (And.intro hown hrow))))
  have HY := Lib.hid hy
  have b1 : l.length + 1 ≤ maxLen := by unfold maxLen; omega
  have b2 : (l.length + 1) * 80 ≤ 140737488355328 := by omega
  have B := Lib.hid (And.intro b1 b2)
  have HS := Lib.hid (fun (W1 : World) (h : Rd R W W1) => And.intro (((h.whole hI.box (by have := hI.lt; omega)).cell 0).trans rfl : W1.cell? ⟨W0.heap.size, 0, none⟩ = some (.pointer (some ⟨R, 0, none⟩))) (((h.whole hv (by have := hI.lt; omega)).cell 3).trans rfl : W1.cell? ⟨W0.heap.size + 2, 3, none⟩ = some (.slice AL l.length cL)))
  obtain ⟨i0, hi0, hz0, hz1, hz2⟩ := info_parts infoVal
  have HI0 := Lib.hid hi0
  have HZ0 := Lib.hid (And.intro hz0 (And.intro hz1 hz2))
  clear hmax hlen hI hA hv hown hrow hy hval b1 b2 hi0 hz0 hz1 hz2
  go_enter Tryd.func82, Tryd.ntmps82
  go_wp2_with fail
  refine till_region (by kernel_rfl) (fun W => W.cell? ⟨W0.heap.size, 0, none⟩ = some (.pointer (some ⟨R, 0, none⟩)) ∧ W.cell? ⟨W0.heap.size + 2, 3, none⟩ = some (.slice AL l.length cL)) 6 11 rfl ?_
  refine till_take (i := 0) (d := some 2) (v := .pointer (some ⟨W0.heap.size + 2, 3, none⟩)) rfl rfl (by kernel_rfl) (by kernel_rfl) (by kernel_rfl) (by kernel_rfl) (by kernel_rfl) rfl (fun _ _ _ h => h) (Or.inl ⟨by rfl, ?_⟩) ⟨hb0, hv3⟩ ?_
  · intro w hS; obtain ⟨h1, h2⟩ := hS; go_simp
  simp only [Act.put, List.setIfInBounds_toArray, List.set_cons_zero, List.set_cons_succ]
  refine till_take (i := 1) (d := some 3) (v := .slice AL l.length cL) rfl rfl (by kernel_rfl) (by kernel_rfl) (by kernel_rfl) (by kernel_rfl) (by kernel_rfl) rfl (fun _ _ _ h => h) (Or.inl ⟨by rfl, ?_⟩) ⟨hb0, hv3⟩ ?_
  · intro w hS; obtain ⟨h1, h2⟩ := hS; go_simp
  simp only [Act.put, List.setIfInBounds_toArray, List.set_cons_zero, List.set_cons_succ]
  refine till_take (i := 2) (d := some 4) (v := .pointer (some ⟨R, 0, none⟩)) rfl rfl (by kernel_rfl) (by kernel_rfl) (by kernel_rfl) (by kernel_rfl) (by kernel_rfl) rfl (fun _ _ _ h => h) (Or.inl ⟨by rfl, ?_⟩) ⟨hb0, hv3⟩ ?_
  · intro w hS; obtain ⟨h1, h2⟩ := hS; go_simp
  simp only [Act.put, List.setIfInBounds_toArray, List.set_cons_zero, List.set_cons_succ]
  refine till_take (i := 4) (d := some 6) (v := .int .i64 l.length) rfl rfl (by kernel_rfl) (by kernel_rfl) (by kernel_rfl) (by kernel_rfl) (by kernel_rfl) rfl (fun _ _ _ h => h) (Or.inl ⟨by rfl, ?_⟩) ⟨hb0, hv3⟩ ?_
  · intro w hS; obtain ⟨h1, h2⟩ := hS; go_simp
  simp only [Act.put, List.setIfInBounds_toArray, List.set_cons_zero, List.set_cons_succ]
  refine till_ready (rs := [3, 5]) (by kernel_rfl) (by simp) ?_
  refine AllTill.cons (o := ⟨some 5, .call { callee := .value (.func 42), args := #[.tmp 4], argTypes := #[99] }, 31, "read.go:124", #[{ on := 2, ground := .data }], none⟩) rfl (fun K hK => ?_) (AllTill.cons (o := ⟨some 7, .buildSlice 28 1 #[(0, .const (.agg #[.int .u8 0, .int .i64 0, .string ⟨#[]⟩, .slice none 0 0, .slice none 0 0]))], 28, "read.go:124", #[], none⟩) rfl (fun K hK => ?_) AllTill.nil)
  · go_simp
    (go_at_call 42; refine (HV.out (W.drew) (Rd.drew R W) HI.out.2.1.drew).mono ?_; rintro e W1 (⟨g, j, v, hv, rfl, ⟨L1, O1, rfl, hL1, hO1⟩, hA1, hR⟩ | ⟨hn, _⟩); rotate_left; exact absurd HY.out hn; obtain ⟨BL, dL, rfl⟩ := lst_form hL1; obtain ⟨BO, dO, rfl⟩ := obj_form hO1; have H1 := Lib.hid (And.intro hv (And.intro hL1 (And.intro hO1 (And.intro hA1 ((Rd.drew R W).trans hR))))); obtain ⟨k0, k1⟩ := HS.out _ H1.out.2.2.2.2; clear hv hL1 hO1 hA1 hR)
    go_wp2_with fail
    refine hK.out _ _ (fun _ => ⟨k0, k1⟩) ?_
    clear hK K
    refine till_ready (rs := [5]) (by kernel_rfl) (by simp) ?_
    refine AllTill.cons (o := ⟨some 7, .buildSlice 28 1 #[(0, .const (.agg #[.int .u8 0, .int .i64 0, .string ⟨#[]⟩, .slice none 0 0, .slice none 0 0]))], 28, "read.go:124", #[], none⟩) rfl (fun K hK => ?_) AllTill.nil
    go_simp
    refine hK.out _ _ (fun _ => ⟨cell_alloc _ k0, cell_alloc _ k1⟩) ?_
    clear hK K
    have HR := (H1.out.2.2.2.2.trans (Rd.alloc R W1 (.cells #[.int .u8 0, .int .i64 0, .string ⟨#[]⟩, .slice none 0 0, .slice none 0 0] 31)))
    refine till_ready (rs := [6]) (by kernel_rfl) (by simp) ?_
    refine AllTill.cons (o := ⟨some 8, .call { callee := .builtin .append, args := #[.tmp 3, .tmp 7], argTypes := #[28, 28] }, 28, "read.go:124", _, none⟩) rfl (fun K hK => ?_) AllTill.nil
    refine step_append_mine rfl (.tmp 3) (.tmp 7) 28 rfl (W0.heap.size + 3) 31 i0 _ 5 80 Tryd.underlying28 HI0.out HZ0.out.1 HZ0.out.2.1 HZ0.out.2.2 rfl (by decide) (.slice AL l.length cL) l.length xs rfl (own_rd HI.out.2.2.2.1 HR (by have := HI.out.1.lt; omega)) ⟨W1.heap.size, 0, none⟩ 1 1 [.int .u8 0, .int .i64 0, .string ⟨#[]⟩, .slice none 0 0, .slice none 0 0] rfl rfl (row_cells' _ _ rfl _ _) (by simp [Value.oneCell']) B.out.1 B.out.2 (by have := HI.out.2.2.1.lt; have := H1.out.2.2.2.2.size; simp; omega) ?_
    intro v3 W3 hown3 hgrow3 hat3
    obtain ⟨A3, c3, rfl⟩ := own_form hown3
    obtain ⟨q, rfl, hq1, hq2, hq3, HC3⟩ := last_facts HI.out.2.2.2.1 hown3
    have hqc : q ≠ W0.heap.size := by omega
    have hqa : q ≠ W0.heap.size + 2 := by omega
    have hqb : W0.heap.size + 2 ≠ q := by omega
    obtain ⟨e0, e1, e2⟩ := grown_keeps HI.out.1 HI.out.2.2.1 HI.out.2.2.2.1 HR hgrow3
    obtain ⟨f0, z0, z1, z2, z3, z4, f1, f2, f3, f4, f5⟩ := HC3
    have HV3 := Lib.hid ((HR.whole HI.out.2.2.1 (by have := HI.out.1.lt; omega)).grown hgrow3 (fun e => by have := (HI.out.2.2.2.1.lt _ e.symm).1; omega))
    have HX := Lib.hid HI.out.2.2.2.1.1
    have H3 := Lib.hid (And.intro hown3 (And.intro hgrow3 hat3))
    clear hown3 hgrow3 hat3
    refine hK.out _ _ (fun h => absurd h (by decide)) ?_
    clear hK K
    simp only [Act.put, List.setIfInBounds_toArray, List.set_cons_zero, List.set_cons_succ]
    refine till_of_any _ _ _ _ (by decide) ?_
    refine any_take (i := 7) (d := some 9) (v := .pointer (some ⟨q, l.length * 5, none⟩)) rfl rfl (by kernel_rfl) (by kernel_rfl) (by kernel_rfl) (fun _ _ _ h => h) (Or.inl ⟨by rfl, ?_⟩) ?_
    · intro w; go_simp
    simp only [Act.put, List.setIfInBounds_toArray, List.set_cons_zero, List.set_cons_succ]
    refine any_take (i := 9) (d := some 10) (v := .pointer (some ⟨W0.heap.size + 2, 3, none⟩)) rfl rfl (by kernel_rfl) (by kernel_rfl) (by kernel_rfl) (fun _ _ _ h => h) (Or.inl ⟨by rfl, ?_⟩) ?_
    · intro w; go_simp
    simp only [Act.put, List.setIfInBounds_toArray, List.set_cons_zero, List.set_cons_succ]
    refine wpAny_ready (rs := [8, 10]) (by kernel_rfl) (by simp) ?_
    refine any_cons (o := ⟨none, .store 31 (.tmp 9) (.tmp 5), 0, "read.go:124", _, none⟩) rfl (fun K hK => ?_) (any_cons (o := ⟨none, .store 28 (.tmp 10) (.tmp 8), 0, "read.go:124", _, none⟩) rfl (fun K hK => ?_) AllReady.nil)
    · go_simp
      refine hK.out _ _ ?_
      clear hK K
      refine wpAny_ready (rs := [10]) (by kernel_rfl) (by simp) ?_
      refine any_cons (o := ⟨none, .store 28 (.tmp 10) (.tmp 8), 0, "read.go:124", _, none⟩) rfl (fun K hK => ?_) AllReady.nil
      go_simp
      refine hK.out _ _ ?_
      clear hK K
      refine wpAny_done (by kernel_rfl) ?_ _
      first
        | go_end0
        | refine bodyPost_ret (results_none rfl _ _ _) rfl ?_
      obtain ⟨fl, fr⟩ := one_fin HI.out.1 (Nat.le_refl _) HI.out.2.2.2.1 HI.out.2.2.2.2 HR (H1.out.2.1.keep (from_alloc _ _ _) (fun k h _ => h)) (H1.out.2.2.1.keep (from_alloc _ _ _) (fun k h _ => h)) H3.out.2.1 H3.out.2.2 (lst2_a W3 (W0.heap.size + 2) q (l.length * 5) 3 (.slice (some ⟨q, 0, none⟩) (l.length + 1) c3) (.int .u8 g.kind) (.int .i64 g.num) (.string g.str) (.slice BL g.items.length dL) (.slice BO g.vals.length dO)) ((HV3.out.of_eq (cells5_far W3 q (l.length * 5) (.int .u8 g.kind) (.int .i64 g.num) (.string g.str) (.slice BL g.items.length dL) (.slice BO g.vals.length dO) hqb)).put 3 (.slice (some ⟨q, 0, none⟩) (l.length + 1) c3)) (ownsRow_setCell_below (own_cells5 HX.out H3.out.1 (.int .u8 g.kind) (.int .i64 g.num) (.string g.str) (.slice BL g.items.length dL) (.slice BO g.vals.length dO)) (by simp only; omega) (.slice (some ⟨q, 0, none⟩) (l.length + 1) c3))
      exact .inl ⟨g, j, vat_itm.1 H1.out.1, rfl, fl, at_eq (alloc_at H1.out.2.2.2.1 _) (fr R HI.out.1.lt)⟩
    · go_simp
      refine hK.out _ _ ?_
      clear hK K
      refine wpAny_ready (rs := [8]) (by kernel_rfl) (by simp) ?_
      refine any_cons (o := ⟨none, .store 31 (.tmp 9) (.tmp 5), 0, "read.go:124", _, none⟩) rfl (fun K hK => ?_) AllReady.nil
      go_simp
      refine hK.out _ _ ?_
      clear hK K
      refine wpAny_done (by kernel_rfl) ?_ _
      first
        | go_end0
        | refine bodyPost_ret (results_none rfl _ _ _) rfl ?_
      obtain ⟨fl, fr⟩ := one_fin HI.out.1 (Nat.le_refl _) HI.out.2.2.2.1 HI.out.2.2.2.2 HR (H1.out.2.1.keep (from_alloc _ _ _) (fun k h _ => h)) (H1.out.2.2.1.keep (from_alloc _ _ _) (fun k h _ => h)) H3.out.2.1 H3.out.2.2 (lst2_b W3 (W0.heap.size + 2) q (l.length * 5) 3 (.slice (some ⟨q, 0, none⟩) (l.length + 1) c3) (.int .u8 g.kind) (.int .i64 g.num) (.string g.str) (.slice BL g.items.length dL) (.slice BO g.vals.length dO)) ((HV3.out.put 3 (.slice (some ⟨q, 0, none⟩) (l.length + 1) c3)).of_eq (cells5_far _ q (l.length * 5) (.int .u8 g.kind) (.int .i64 g.num) (.string g.str) (.slice BL g.items.length dL) (.slice BO g.vals.length dO) hqb)) (own_cells5 HX.out (ownsRow_setCell_below H3.out.1 (by simp only; omega) (.slice (some ⟨q, 0, none⟩) (l.length + 1) c3)) (.int .u8 g.kind) (.int .i64 g.num) (.string g.str) (.slice BL g.items.length dL) (.slice BO g.vals.length dO))
      exact .inl ⟨g, j, vat_itm.1 H1.out.1, rfl, fl, at_eq (alloc_at H1.out.2.2.2.1 _) (fr R HI.out.1.lt)⟩
  · go_simp
    refine hK.out _ _ (fun _ => ⟨cell_alloc _ hb0, cell_alloc _ hv3⟩) ?_
    clear hK K
    refine till_ready (rs := [3]) (by kernel_rfl) (by simp) ?_
    refine AllTill.cons (o := ⟨some 5, .call { callee := .value (.func 42), args := #[.tmp 4], argTypes := #[99] }, 31, "read.go:124", #[{ on := 2, ground := .data }], none⟩) rfl (fun K hK => ?_) AllTill.nil
    go_simp
    (go_at_call 42; refine (HV.out _ ((Rd.alloc R W _).trans (Rd.drew R _)) ((alloc_at HI.out.2.1 _).drew)).mono ?_; rintro e W1 (⟨g, j, v, hv, rfl, ⟨L1, O1, rfl, hL1, hO1⟩, hA1, hR⟩ | ⟨hn, _⟩); rotate_left; exact absurd HY.out hn; obtain ⟨BL, dL, rfl⟩ := lst_form hL1; obtain ⟨BO, dO, rfl⟩ := obj_form hO1; have HB1 := Lib.hid (hR.whole (Whole.new W 31 #[.int .u8 0, .int .i64 0, .string ⟨#[]⟩, .slice none 0 0, .slice none 0 0]) (by have := HI.out.2.1.lt; omega)); have H1 := Lib.hid (And.intro hv (And.intro hL1 (And.intro hO1 (And.intro hA1 (((Rd.alloc R W _).trans (Rd.drew R _)).trans hR))))); obtain ⟨k0, k1⟩ := HS.out _ H1.out.2.2.2.2; clear hv hL1 hO1 hA1 hR)
    go_wp2_with fail
    refine hK.out _ _ (fun _ => ⟨k0, k1⟩) ?_
    clear hK K
    have HR := H1.out.2.2.2.2
    refine till_ready (rs := [6]) (by kernel_rfl) (by simp) ?_
    refine AllTill.cons (o := ⟨some 8, .call { callee := .builtin .append, args := #[.tmp 3, .tmp 7], argTypes := #[28, 28] }, 28, "read.go:124", _, none⟩) rfl (fun K hK => ?_) AllTill.nil
    refine step_append_mine rfl (.tmp 3) (.tmp 7) 28 rfl (W0.heap.size + 3) 31 i0 _ 5 80 Tryd.underlying28 HI0.out HZ0.out.1 HZ0.out.2.1 HZ0.out.2.2 rfl (by decide) (.slice AL l.length cL) l.length xs rfl (own_rd HI.out.2.2.2.1 HR (by have := HI.out.1.lt; omega)) ⟨W.heap.size, 0, none⟩ 1 1 [.int .u8 0, .int .i64 0, .string ⟨#[]⟩, .slice none 0 0, .slice none 0 0] rfl rfl (whole_cells HB1.out) (by simp [Value.oneCell']) B.out.1 B.out.2 (by have := HI.out.2.2.1.lt; have := H1.out.2.2.2.2.size; omega) ?_
    intro v3 W3 hown3 hgrow3 hat3
    obtain ⟨A3, c3, rfl⟩ := own_form hown3
    obtain ⟨q, rfl, hq1, hq2, hq3, HC3⟩ := last_facts HI.out.2.2.2.1 hown3
    have hqc : q ≠ W0.heap.size := by omega
    have hqa : q ≠ W0.heap.size + 2 := by omega
    have hqb : W0.heap.size + 2 ≠ q := by omega
    obtain ⟨e0, e1, e2⟩ := grown_keeps HI.out.1 HI.out.2.2.1 HI.out.2.2.2.1 HR hgrow3
    obtain ⟨f0, z0, z1, z2, z3, z4, f1, f2, f3, f4, f5⟩ := HC3
    have HV3 := Lib.hid ((HR.whole HI.out.2.2.1 (by have := HI.out.1.lt; omega)).grown hgrow3 (fun e => by have := (HI.out.2.2.2.1.lt _ e.symm).1; omega))
    have HX := Lib.hid HI.out.2.2.2.1.1
    have H3 := Lib.hid (And.intro hown3 (And.intro hgrow3 hat3))
    clear hown3 hgrow3 hat3
    refine hK.out _ _ (fun h => absurd h (by decide)) ?_
    clear hK K
    simp only [Act.put, List.setIfInBounds_toArray, List.set_cons_zero, List.set_cons_succ]
    refine till_of_any _ _ _ _ (by decide) ?_
    refine any_take (i := 7) (d := some 9) (v := .pointer (some ⟨q, l.length * 5, none⟩)) rfl rfl (by kernel_rfl) (by kernel_rfl) (by kernel_rfl) (fun _ _ _ h => h) (Or.inl ⟨by rfl, ?_⟩) ?_
    · intro w; go_simp
    simp only [Act.put, List.setIfInBounds_toArray, List.set_cons_zero, List.set_cons_succ]
    refine any_take (i := 9) (d := some 10) (v := .pointer (some ⟨W0.heap.size + 2, 3, none⟩)) rfl rfl (by kernel_rfl) (by kernel_rfl) (by kernel_rfl) (fun _ _ _ h => h) (Or.inl ⟨by rfl, ?_⟩) ?_
    · intro w; go_simp
    simp only [Act.put, List.setIfInBounds_toArray, List.set_cons_zero, List.set_cons_succ]
    refine wpAny_ready (rs := [8, 10]) (by kernel_rfl) (by simp) ?_
    refine any_cons (o := ⟨none, .store 31 (.tmp 9) (.tmp 5), 0, "read.go:124", _, none⟩) rfl (fun K hK => ?_) (any_cons (o := ⟨none, .store 28 (.tmp 10) (.tmp 8), 0, "read.go:124", _, none⟩) rfl (fun K hK => ?_) AllReady.nil)
    · go_simp
      refine hK.out _ _ ?_
      clear hK K
      refine wpAny_ready (rs := [10]) (by kernel_rfl) (by simp) ?_
      refine any_cons (o := ⟨none, .store 28 (.tmp 10) (.tmp 8), 0, "read.go:124", _, none⟩) rfl (fun K hK => ?_) AllReady.nil
      go_simp
      refine hK.out _ _ ?_
      clear hK K
      refine wpAny_done (by kernel_rfl) ?_ _
      first
        | go_end0
        | refine bodyPost_ret (results_none rfl _ _ _) rfl ?_
      obtain ⟨fl, fr⟩ := one_fin HI.out.1 (n0 := (W.alloc (.cells #[.int .u8 0, .int .i64 0, .string ⟨#[]⟩, .slice none 0 0, .slice none 0 0] 31)).heap.size) (by simp) HI.out.2.2.2.1 HI.out.2.2.2.2 HR (H1.out.2.1) (H1.out.2.2.1) H3.out.2.1 H3.out.2.2 (lst2_a W3 (W0.heap.size + 2) q (l.length * 5) 3 (.slice (some ⟨q, 0, none⟩) (l.length + 1) c3) (.int .u8 g.kind) (.int .i64 g.num) (.string g.str) (.slice BL g.items.length dL) (.slice BO g.vals.length dO)) ((HV3.out.of_eq (cells5_far W3 q (l.length * 5) (.int .u8 g.kind) (.int .i64 g.num) (.string g.str) (.slice BL g.items.length dL) (.slice BO g.vals.length dO) hqb)).put 3 (.slice (some ⟨q, 0, none⟩) (l.length + 1) c3)) (ownsRow_setCell_below (own_cells5 HX.out H3.out.1 (.int .u8 g.kind) (.int .i64 g.num) (.string g.str) (.slice BL g.items.length dL) (.slice BO g.vals.length dO)) (by simp only; omega) (.slice (some ⟨q, 0, none⟩) (l.length + 1) c3))
      exact .inl ⟨g, j, vat_itm.1 H1.out.1, rfl, fl, at_eq H1.out.2.2.2.1 (fr R HI.out.1.lt)⟩
    · go_simp
      refine hK.out _ _ ?_
      clear hK K
      refine wpAny_ready (rs := [8]) (by kernel_rfl) (by simp) ?_
      refine any_cons (o := ⟨none, .store 31 (.tmp 9) (.tmp 5), 0, "read.go:124", _, none⟩) rfl (fun K hK => ?_) AllReady.nil
      go_simp
      refine hK.out _ _ ?_
      clear hK K
      refine wpAny_done (by kernel_rfl) ?_ _
      first
        | go_end0
        | refine bodyPost_ret (results_none rfl _ _ _) rfl ?_
      obtain ⟨fl, fr⟩ := one_fin HI.out.1 (n0 := (W.alloc (.cells #[.int .u8 0, .int .i64 0, .string ⟨#[]⟩, .slice none 0 0, .slice none 0 0] 31)).heap.size) (by simp) HI.out.2.2.2.1 HI.out.2.2.2.2 HR (H1.out.2.1) (H1.out.2.2.1) H3.out.2.1 H3.out.2.2 (lst2_b W3 (W0.heap.size + 2) q (l.length * 5) 3 (.slice (some ⟨q, 0, none⟩) (l.length + 1) c3) (.int .u8 g.kind) (.int .i64 g.num) (.string g.str) (.slice BL g.items.length dL) (.slice BO g.vals.length dO)) ((HV3.out.put 3 (.slice (some ⟨q, 0, none⟩) (l.length + 1) c3)).of_eq (cells5_far _ q (l.length * 5) (.int .u8 g.kind) (.int .i64 g.num) (.string g.str) (.slice BL g.items.length dL) (.slice BO g.vals.length dO) hqb)) (own_cells5 HX.out (ownsRow_setCell_below H3.out.1 (by simp only; omega) (.slice (some ⟨q, 0, none⟩) (l.length + 1) c3)) (.int .u8 g.kind) (.int .i64 g.num) (.string g.str) (.slice BL g.items.length dL) (.slice BO g.vals.length dO))
      exact .inl ⟨g, j, vat_itm.1 H1.out.1, rfl, fl, at_eq H1.out.2.2.2.1 (fr R HI.out.1.lt)⟩
set_option maxHeartbeats 8000000 in
set_option maxRecDepth 100000 in
theorem one_no (m R : Nat) (s : ByteArray) (i d : Nat) (W0 : World) (l : List GV) (W : World) (hI : LInv W0 R l W) (hA : At W R s i d) (hlen : l.length ≤ s.size) (hy : ¬ ∃ g r, VAt m (rest s i) g r)
    (hval : ∀ W1, Rd R W W1 → At W1 R s i d → Calls Tryd.prog 42 #[.pointer (some ⟨R, 0, none⟩)] W1 (ROut m R s i d W1)) :
    Calls Tryd.prog 82 #[.pointer (some ⟨W0.heap.size + 2, 0, none⟩), .pointer (some ⟨W0.heap.size, 0, none⟩)] W (OneOut (ItmV m) R s (LInv W0 R) W0 l i d) := by
  obtain ⟨vL, xs, hv, hown, hrow⟩ := hI.val
  obtain ⟨AL, cL, rfl⟩ := own_form hown
  have hb0 : W.drew.cell? ⟨W0.heap.size, 0, none⟩ = some (.pointer (some ⟨R, 0, none⟩)) := (hI.box.cell 0).trans rfl
  have hv3 : W.drew.cell? ⟨W0.heap.size + 2, 3, none⟩ = some (.slice AL l.length cL) := (hv.cell 3).trans rfl
  have hmax := hA.max
  have hk0 : (0 : Int) ≤ (l.length : Int) := by omega
  have hk1 : (l.length : Int) < ((l.length + 1 : Nat) : Int) := by omega
  have hk2 : (l.length : Int) < (l.length : Int) + 1 := by omega
  have HV := Lib.hid hval
  have HI := Lib.hid (And.intro hI (And.intro hA (And.intro hv (And.intro hown hrow))))
  have HY := Lib.hid hy
  have b1 : l.length + 1 ≤ maxLen := by unfold maxLen; omega
  have b2 : (l.length + 1) * 80 ≤ 140737488355328 := by omega
  have B := Lib.hid (And.intro b1 b2)
  have HS := Lib.hid (fun (W1 : World) (h : Rd R W W1) => And.intro (((h.whole hI.box (by have := hI.lt; omega)).cell 0).trans rfl : W1.cell? ⟨W0.heap.size, 0, none⟩ = some (.pointer (some ⟨R, 0, none⟩))) (((h.whole hv (by have := hI.lt; omega)).cell 3).trans rfl : W1.cell? ⟨W0.heap.size + 2, 3, none⟩ = some (.slice AL l.length cL)))
  obtain ⟨i0, hi0, hz0, hz1, hz2⟩ := info_parts infoVal
  have HI0 := Lib.hid hi0
  have HZ0 := Lib.hid (And.intro hz0 (And.intro hz1 hz2))
  clear hmax hlen hI hA hv hown hrow hy hval b1 b2 hi0 hz0 hz1 hz2
  go_enter Tryd.func82, Tryd.ntmps82
  go_wp2_with fail
  refine till_region (by kernel_rfl) (fun W => W.cell? ⟨W0.heap.size, 0, none⟩ = some (.pointer (some ⟨R, 0, none⟩)) ∧ W.cell? ⟨W0.heap.size + 2, 3, none⟩ = some (.slice AL l.length cL)) 6 11 rfl ?_
  refine till_take (i := 0) (d := some 2) (v := .pointer (some ⟨W0.heap.size + 2, 3, none⟩)) rfl rfl (by kernel_rfl) (by kernel_rfl) (by kernel_rfl) (by kernel_rfl) (by kernel_rfl) rfl (fun _ _ _ h => h) (Or.inl ⟨by rfl, ?_⟩) ⟨hb0, hv3⟩ ?_
  · intro w hS; obtain ⟨h1, h2⟩ := hS; go_simp
  simp only [Act.put, List.setIfInBounds_toArray, List.set_cons_zero, List.set_cons_succ]
  refine till_take (i := 1) (d := some 3) (v := .slice AL l.length cL) rfl rfl (by kernel_rfl) (by kernel_rfl) (by kernel_rfl) (by kernel_rfl) (by kernel_rfl) rfl (fun _ _ _ h => h) (Or.inl ⟨by rfl, ?_⟩) ⟨hb0, hv3⟩ ?_
  · intro w hS; obtain ⟨h1, h2⟩ := hS; go_simp
  simp only [Act.put, List.setIfInBounds_toArray, List.set_cons_zero, List.set_cons_succ]
  refine till_take (i := 2) (d := some 4) (v := .pointer (some ⟨R, 0, none⟩)) rfl rfl (by kernel_rfl) (by kernel_rfl) (by kernel_rfl) (by kernel_rfl) (by kernel_rfl) rfl (fun _ _ _ h => h) (Or.inl ⟨by rfl, ?_⟩) ⟨hb0, hv3⟩ ?_
  · intro w hS; obtain ⟨h1, h2⟩ := hS; go_simp
  simp only [Act.put, List.setIfInBounds_toArray, List.set_cons_zero, List.set_cons_succ]
  refine till_take (i := 4) (d := some 6) (v := .int .i64 l.length) rfl rfl (by kernel_rfl) (by kernel_rfl) (by kernel_rfl) (by kernel_rfl) (by kernel_rfl) rfl (fun _ _ _ h => h) (Or.inl ⟨by rfl, ?_⟩) ⟨hb0, hv3⟩ ?_
  · intro w hS; obtain ⟨h1, h2⟩ := hS; go_simp
  simp only [Act.put, List.setIfInBounds_toArray, List.set_cons_zero, List.set_cons_succ]
  refine till_ready (rs := [3, 5]) (by kernel_rfl) (by simp) ?_
  refine AllTill.cons (o := ⟨some 5, .call { callee := .value (.func 42), args := #[.tmp 4], argTypes := #[99] }, 31, "read.go:124", #[{ on := 2, ground := .data }], none⟩) rfl (fun K hK => ?_) (AllTill.cons (o := ⟨some 7, .buildSlice 28 1 #[(0, .const (.agg #[.int .u8 0, .int .i64 0, .string ⟨#[]⟩, .slice none 0 0, .slice none 0 0]))], 28, "read.go:124", #[], none⟩) rfl (fun K hK => ?_) AllTill.nil)
  · go_simp
    (go_at_call 42; refine (HV.out (W.drew) (Rd.drew R W) HI.out.2.1.drew).mono ?_; rintro e W1 (⟨g, j, v, hv, _⟩ | ⟨_, v, rfl, hv, hR⟩); exact absurd ⟨_, _, hv⟩ HY.out)
    go_wp2_with fail
    exact panic_post rfl (.inr ⟨fun ⟨x, r, h⟩ => HY.out ⟨x, r, vat_itm.2 h⟩, _, rfl, hv, HI.out.1.rd.trans ((Rd.drew R W).trans hR)⟩)
  · go_simp
    refine hK.out _ _ (fun _ => ⟨cell_alloc _ hb0, cell_alloc _ hv3⟩) ?_
    clear hK K
    refine till_ready (rs := [3]) (by kernel_rfl) (by simp) ?_
    refine AllTill.cons (o := ⟨some 5, .call { callee := .value (.func 42), args := #[.tmp 4], argTypes := #[99] }, 31, "read.go:124", #[{ on := 2, ground := .data }], none⟩) rfl (fun K hK => ?_) AllTill.nil
    go_simp
    (go_at_call 42; refine (HV.out _ ((Rd.alloc R W _).trans (Rd.drew R _)) ((alloc_at HI.out.2.1 _).drew)).mono ?_; rintro e W1 (⟨g, j, v, hv, _⟩ | ⟨_, v, rfl, hv, hR⟩); exact absurd ⟨_, _, hv⟩ HY.out)
    go_wp2_with fail
    exact panic_post rfl (.inr ⟨fun ⟨x, r, h⟩ => HY.out ⟨x, r, vat_itm.2 h⟩, _, rfl, hv, HI.out.1.rd.trans (((Rd.alloc R W _).trans (Rd.drew R _)).trans hR)⟩)
end Go.Proofs.YtmmjkhkcffgeiaaDoor
