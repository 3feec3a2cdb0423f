/- json's reader: a field of an object is read. -/
import Derived.Test.YtmmjkhkcffgeiaaDoorRdO
namespace Go.Proofs.YtmmjkhkcffgeiaaDoor
open Go Go.RowKit Go.Shelf

set_option maxHeartbeats 4000000 in
set_option maxRecDepth 100000 in
theorem r_letters_no (R : Nat) (s : ByteArray) (i d : Nat) (W : World) (h : At W R s i d) (hp : Lib.hasPrefix (rest s i) [34] = false) :
    Calls Tryd.prog 80 #[.pointer (some ⟨R, 0, none⟩)] W (Bad R W) := by
  have HC := Lib.hid (c_word_bad R s ⟨#[34]⟩ i d W h hp)
  clear h hp
  go_enter Tryd.func80, Tryd.ntmps80
  go_wp2_with (go_at_call 77; refine HC.out.mono ?_; rintro e W1 ⟨v, rfl, hv, hR⟩)
  exact panic_post rfl ⟨_, rfl, hv, hR⟩
/-- letters, whatever stands there. -/
theorem r_letters_any (R : Nat) (s : ByteArray) (i d : Nat) (W : World) (h : At W R s i d) :
    Calls Tryd.prog 80 #[.pointer (some ⟨R, 0, none⟩)] W (QuoOut R s i d W) := by
  cases hp : Lib.hasPrefix (rest s i) [34] with
  | false =>
    refine (r_letters_no R s i d W h hp).mono fun e w' hb => .inr ⟨fun ⟨t, r, e⟩ => ?_, hb⟩
    rw [e] at hp
    simp [encText, Lib.hasPrefix] at hp
  | true =>
    obtain ⟨r0, hr⟩ := pre_split hp
    have hr1 : rest s (i + 1) = r0 := rest_next (p := [34]) hr
    refine (r_letters R s i d W h r0 hr).mono fun e w' hh => ?_
    rcases hh with ⟨t, j, ht, he, hA, hR⟩ | ⟨hn, hb⟩
    · refine .inl ⟨t, j, ?_, he, hA, hR⟩
      rw [hr, ← hr1, ht]
      simp [encText]
    · refine .inr ⟨fun ⟨t, r, e⟩ => hn ⟨t, r, ?_⟩, hb⟩
      rw [hr1]
      rw [hr] at e
      simp only [encText, List.cons_append, List.nil_append, List.append_assoc, List.cons.injEq, true_and] at e
      exact e
/-- word, whatever stands there. -/
def WordOut (t : List UInt8) (R : Nat) (s : ByteArray) (i d : Nat) (W : World) (e : Ending) (w' : World) : Prop :=
  (rest s i = t ++ rest s (i + t.length) ∧ e = .returned (.tuple #[]) ∧ At w' R s (i + t.length) d ∧ Rd R W w') ∨ (Lib.hasPrefix (rest s i) t = false ∧ Bad R W e w')
theorem c_word_any (R : Nat) (s : ByteArray) (t : List UInt8) (i d : Nat) (W : World) (h : At W R s i d) :
    Calls Tryd.prog 77 #[.pointer (some ⟨R, 0, none⟩), .string ⟨t.toArray⟩] W (WordOut t R s i d W) := by
  cases hp : Lib.hasPrefix (rest s i) t with
  | false => exact (c_word_bad R s ⟨t.toArray⟩ i d W h hp).mono fun e w' hb => .inr ⟨hp, hb⟩
  | true =>
    obtain ⟨r, hr⟩ := pre_split hp
    exact (c_word_ok R s ⟨t.toArray⟩ i d W h r hr).mono fun e w' hh => .inl ⟨by rw [hr, rest_next hr], hh.1, hh.2.1, hh.2.2⟩
theorem fld_at {m : Nat} {s : ByteArray} {i j k : Nat} {t : List UInt8} {g : GV} (h1 : rest s i = encText t ++ rest s j) (h2 : rest s j = [58] ++ rest s (j + 1)) (h3 : VAt m (rest s (j + 1)) g (rest s k)) : (ItmF m).At (rest s i) (⟨t.toArray⟩, g) (rest s k) :=
  ⟨⟨h3.1, h3.2.1⟩, by rw [h1, h2, h3.2.2.1]; simp [ItmF], h3.2.2.2⟩
theorem fld_val {m : Nat} {s : ByteArray} {i j : Nat} {t : List UInt8} {x : ByteArray × GV} {r : List UInt8} (h1 : rest s i = encText t ++ rest s j) (h2 : rest s j = [58] ++ rest s (j + 1)) (h : (ItmF m).At (rest s i) x r) : ∃ g r, VAt m (rest s (j + 1)) g r := by
  obtain ⟨hg, he, hf⟩ := h
  rw [h1, h2] at he
  simp only [ItmF, encText, List.cons_append, List.nil_append, List.append_assoc, List.cons.injEq, true_and] at he
  obtain ⟨_, he⟩ := encL_apart he
  exact ⟨x.2, r, hg.1, hg.2, (List.cons.inj he).2, hf⟩
theorem fld_no {m : Nat} {s : ByteArray} {i j : Nat} {t : List UInt8} (h1 : rest s i = encText t ++ rest s j) (h2 : Lib.hasPrefix (rest s j) [58] = false) : ¬ ∃ x r, (ItmF m).At (rest s i) x r := fun ⟨x, r, hg, he, hf⟩ => by
  rw [h1] at he
  simp only [ItmF, encText, List.cons_append, List.nil_append, List.append_assoc, List.cons.injEq, true_and] at he
  obtain ⟨_, he⟩ := encL_apart he
  rw [he] at h2
  simp [Lib.hasPrefix] at h2
theorem fld_no0 {m : Nat} {s : ByteArray} {i : Nat} (h : ¬ ∃ t r, rest s i = encText t ++ r) : ¬ ∃ x r, (ItmF m).At (rest s i) x r := fun ⟨x, r, hg, he, hf⟩ => h ⟨x.1.data.toList, 58 :: (x.2.enc ++ r), by rw [he]; simp [ItmF]⟩

set_option maxHeartbeats 8000000 in
set_option maxRecDepth 100000 in
theorem fld_one (m R : Nat) (s : ByteArray) (i d : Nat) (W0 : World) (l : List (ByteArray × GV)) (W : World) (hI : OInv W0 R l W) (hA : At W R s i d) (hlen : l.length ≤ s.size)
    (hval : ∀ W1 j, Rd R W W1 → At W1 R s j d → Calls Tryd.prog 42 #[.pointer (some ⟨R, 0, none⟩)] W1 (ROut m R s j d W1)) :
    Calls Tryd.prog 83 #[.pointer (some ⟨W0.heap.size, 0, none⟩), .pointer (some ⟨W0.heap.size + 2, 0, none⟩)] W (OneOut (ItmF m) R s (OInv W0 R) W0 l i d) := by
  obtain ⟨vO, xs, hv, hown, hrow⟩ := hI.val
  obtain ⟨AO, cO, rfl⟩ := own_form hown
  have c0 : W.cell? ⟨W0.heap.size, 0, none⟩ = some (.pointer (some ⟨R, 0, none⟩)) := (hI.box.cell 0).trans rfl
  have hmax := hA.max
  have hk0 : (0 : Int) ≤ (l.length : Int) := by omega
  have hk1 : (l.length : Int) < ((l.length + 1 : Nat) : Int) := by omega
  have hk2 : (l.length : Int) < (l.length : Int) + 1 := by omega
  have HV := Lib.hid hval
  have hsz : ∀ W1 : World, Rd R W W1 → W.heap.size ≤ W1.heap.size := fun W1 h => h.size
  have HI := Lib.hid (And.intro hI (And.intro hA (And.intro hv (And.intro hown (And.intro hrow hsz)))))
  have b1 : l.length + 1 ≤ maxLen := by unfold maxLen; omega
  have b2 : (l.length + 1) * 96 ≤ 140737488355328 := by omega
  have B := Lib.hid (And.intro b1 b2)
  have HS := Lib.hid (fun (W1 : World) (h : Rd R W W1) => And.intro (((h.whole hI.box (by have := hI.lt; omega)).cell 0).trans rfl : W1.cell? ⟨W0.heap.size, 0, none⟩ = some (.pointer (some ⟨R, 0, none⟩))) (((h.whole hv (by have := hI.lt; omega)).cell 4).trans rfl : W1.cell? ⟨W0.heap.size + 2, 4, none⟩ = some (.slice AO l.length cO)))
  have HL := Lib.hid (r_letters_any R s i d W hA)
  obtain ⟨i0, hi0, hz0, hz1, hz2⟩ := info_parts infoField
  have HI0 := Lib.hid hi0
  have HZ0 := Lib.hid (And.intro hz0 (And.intro hz1 hz2))
  clear hmax hlen hI hA hv hown hrow hval hsz b1 b2 hi0 hz0 hz1 hz2
  go_enter Tryd.func83, Tryd.ntmps83
  go_wp2_with (first
    | (go_at_call 80; refine HL.out.mono ?_; rintro e W1 (⟨t, j, ht, rfl, hA1, hR1⟩ | ⟨hn, v, rfl, hv, hR1⟩); rotate_left; exact panic_post rfl (.inr ⟨fld_no0 hn, _, rfl, hv, HI.out.1.rd.trans hR1⟩); have H1 := Lib.hid (And.intro hA1 hR1); have HT := Lib.hid (And.intro ht (And.intro trivial trivial)); obtain ⟨c1, _⟩ := HS.out _ hR1; clear hA1 hR1 ht)
    | (go_at_call 77; refine (c_word_any R s [58] j d _ H1.out.1).mono ?_; rintro e W2 (⟨ht2, rfl, hA2, hR2⟩ | ⟨hn, v, rfl, hv, hR2⟩); rotate_left; exact panic_post rfl (.inr ⟨fld_no HT.out.1 hn, _, rfl, hv, HI.out.1.rd.trans (H1.out.2.trans hR2)⟩); have H2 := Lib.hid (And.intro (show At W2 R s (j + 1) d from hA2) hR2); have HC2 := Lib.hid (And.intro (show rest s j = [58] ++ rest s (j + 1) from ht2) trivial); clear hA2 hR2 ht2))
  obtain ⟨hb0', hv4'⟩ := HS.out _ (H1.out.2.trans H2.out.2)
  have hb0 : W2.drew.cell? ⟨W0.heap.size, 0, none⟩ = some (.pointer (some ⟨R, 0, none⟩)) := hb0'
  have hv4 : W2.drew.cell? ⟨W0.heap.size + 2, 4, none⟩ = some (.slice AO l.length cO) := hv4'
  clear hb0' hv4' c0 c1
  refine till_region (by kernel_rfl) (fun W => W.cell? ⟨W0.heap.size, 0, none⟩ = some (.pointer (some ⟨R, 0, none⟩)) ∧ W.cell? ⟨W0.heap.size + 2, 4, none⟩ = some (.slice AO l.length cO)) 8 13 rfl ?_
  refine till_take (i := 0) (d := some 9) (v := .pointer (some ⟨W0.heap.size + 2, 4, none⟩)) rfl rfl (by kernel_rfl) (by kernel_rfl) (by kernel_rfl) (by kernel_rfl) (by kernel_rfl) rfl (fun _ _ _ h => h) (Or.inl ⟨by rfl, ?_⟩) ⟨hb0, hv4⟩ ?_
  · intro w hS; obtain ⟨h1, h2⟩ := hS; go_simp
  simp only [Act.put, List.setIfInBounds_toArray, List.set_cons_zero, List.set_cons_succ]
  refine till_take (i := 1) (d := some 10) (v := .slice AO l.length cO) rfl rfl (by kernel_rfl) (by kernel_rfl) (by kernel_rfl) (by kernel_rfl) (by kernel_rfl) rfl (fun _ _ _ h => h) (Or.inl ⟨by rfl, ?_⟩) ⟨hb0, hv4⟩ ?_
  · intro w hS; obtain ⟨h1, h2⟩ := hS; go_simp
  simp only [Act.put, List.setIfInBounds_toArray, List.set_cons_zero, List.set_cons_succ]
  refine till_take (i := 2) (d := some 11) (v := .string ⟨t.toArray⟩) rfl rfl (by kernel_rfl) (by kernel_rfl) (by kernel_rfl) (by kernel_rfl) (by kernel_rfl) rfl (fun _ _ _ h => h) (Or.inl ⟨by rfl, ?_⟩) ⟨hb0, hv4⟩ ?_
  · intro w hS; obtain ⟨h1, h2⟩ := hS; go_simp
  simp only [Act.put, List.setIfInBounds_toArray, List.set_cons_zero, List.set_cons_succ]
  refine till_take (i := 3) (d := some 12) (v := .pointer (some ⟨R, 0, none⟩)) rfl rfl (by kernel_rfl) (by kernel_rfl) (by kernel_rfl) (by kernel_rfl) (by kernel_rfl) rfl (fun _ _ _ h => h) (Or.inl ⟨by rfl, ?_⟩) ⟨hb0, hv4⟩ ?_
  · intro w hS; obtain ⟨h1, h2⟩ := hS; go_simp
  simp only [Act.put, List.setIfInBounds_toArray, List.set_cons_zero, List.set_cons_succ]
  refine till_take (i := 6) (d := some 15) (v := .int .i64 l.length) rfl rfl (by kernel_rfl) (by kernel_rfl) (by kernel_rfl) (by kernel_rfl) (by kernel_rfl) rfl (fun _ _ _ h => h) (Or.inl ⟨by rfl, ?_⟩) ⟨hb0, hv4⟩ ?_
  · intro w hS; obtain ⟨h1, h2⟩ := hS; go_simp
  simp only [Act.put, List.setIfInBounds_toArray, List.set_cons_zero, List.set_cons_succ]
  refine till_ready (rs := [4, 7]) (by kernel_rfl) (by simp) ?_
  refine AllTill.cons (o := ⟨some 13, .call { callee := .value (.func 42), args := #[.tmp 12], argTypes := #[99] }, 31, "read.go:133", _, none⟩) rfl (fun K hK => ?_) (AllTill.cons (o := ⟨some 16, .buildSlice 29 1 #[(0, .const (.agg #[.string ⟨#[]⟩, .int .u8 0, .int .i64 0, .string ⟨#[]⟩, .slice none 0 0, .slice none 0 0]))], 29, "read.go:133", _, none⟩) rfl (fun K hK => ?_) AllTill.nil)
  · go_simp
    (go_at_call 42; refine (HV.out (W2.drew) (j + 1) ((H1.out.2.trans H2.out.2).trans (Rd.drew R W2)) H2.out.1.drew).mono ?_; rintro e W3 (⟨g, k, v, hv, rfl, ⟨L1, O1, rfl, hL1, hO1⟩, hA1, hR⟩ | ⟨hn, v, rfl, hv, hR⟩); rotate_left; exact panic_post rfl (.inr ⟨fun ⟨x, r, h⟩ => hn (fld_val HT.out.1 HC2.out.1 h), _, rfl, hv, HI.out.1.rd.trans ((H1.out.2.trans H2.out.2).trans ((Rd.drew R W2).trans hR))⟩); obtain ⟨BL, dL, rfl⟩ := lst_form hL1; obtain ⟨BO, dO, rfl⟩ := obj_form hO1; have H3 := Lib.hid (And.intro hv (And.intro hL1 (And.intro hO1 (And.intro hA1 ((H1.out.2.trans H2.out.2).trans ((Rd.drew R W2).trans hR)))))); obtain ⟨k0, k1⟩ := HS.out _ H3.out.2.2.2.2; clear hv hL1 hO1 hA1 hR)
    go_wp2_with fail
    refine hK.out _ _ (fun _ => ⟨k0, k1⟩) ?_
    clear hK K
    refine till_take (i := 5) (d := some 14) (v := .agg #[.string ⟨t.toArray⟩, .int .u8 g.kind, .int .i64 g.num, .string g.str, .slice BL g.items.length dL, .slice BO g.vals.length dO]) rfl rfl (by kernel_rfl) (by kernel_rfl) (by kernel_rfl) (by kernel_rfl) (by kernel_rfl) rfl (fun _ _ _ h => h) (Or.inl ⟨by rfl, ?_⟩) ⟨k0, k1⟩ ?_
    · intro w hS; obtain ⟨h1, h2⟩ := hS; go_simp
    simp only [Act.put, List.setIfInBounds_toArray, List.set_cons_zero, List.set_cons_succ]
    refine till_ready (rs := [7]) (by kernel_rfl) (by simp) ?_
    refine AllTill.cons (o := ⟨some 16, .buildSlice 29 1 #[(0, .const (.agg #[.string ⟨#[]⟩, .int .u8 0, .int .i64 0, .string ⟨#[]⟩, .slice none 0 0, .slice none 0 0]))], 29, "read.go:133", _, none⟩) rfl (fun K hK => ?_) AllTill.nil
    go_simp
    refine hK.out _ _ (fun _ => ⟨cell_alloc _ k0, cell_alloc _ k1⟩) ?_
    clear hK K
    have HR := (H3.out.2.2.2.2.trans (Rd.alloc R W3 (.cells #[.string ⟨#[]⟩, .int .u8 0, .int .i64 0, .string ⟨#[]⟩, .slice none 0 0, .slice none 0 0] 45)))
    refine till_ready (rs := [8]) (by kernel_rfl) (by simp) ?_
    refine AllTill.cons (o := ⟨some 17, .call { callee := .builtin .append, args := #[.tmp 10, .tmp 16], argTypes := #[29, 29] }, 29, "read.go:133", _, none⟩) rfl (fun K hK => ?_) AllTill.nil
    refine step_append_mine rfl (.tmp 10) (.tmp 16) 29 rfl (W0.heap.size + 3) 45 i0 _ 6 96 Tryd.underlying29 HI0.out HZ0.out.1 HZ0.out.2.1 HZ0.out.2.2 rfl (by decide) (.slice AO l.length cO) l.length xs rfl (own_rd HI.out.2.2.2.1 HR (by have := HI.out.1.lt; omega)) ⟨W3.heap.size, 0, none⟩ 1 1 [.string ⟨#[]⟩, .int .u8 0, .int .i64 0, .string ⟨#[]⟩, .slice none 0 0, .slice none 0 0] rfl rfl (row_cells' _ _ rfl _ _) (by simp [Value.oneCell']) B.out.1 B.out.2 (by have := HI.out.2.2.1.lt; have := H3.out.2.2.2.2.size; simp; omega) ?_
    intro v5 W5 hown5 hgrow5 hat5
    obtain ⟨A5, c3, rfl⟩ := own_form hown5
    obtain ⟨q, rfl, hq1, hq2, hq3, HC5⟩ := last_factsO HI.out.2.2.2.1 hown5
    have hqa : q ≠ W0.heap.size + 2 := by omega
    have hqb : W0.heap.size + 2 ≠ q := by omega
    have HV5 := Lib.hid (grown_keepsO HI.out.1 HI.out.2.2.1 HI.out.2.2.2.1 HR hgrow5)
    obtain ⟨e1, e2, _⟩ := HV5.out
    obtain ⟨f0, z0, z1, z2, z3, z4, z5, y2, y3, y4, y5⟩ := HC5
    have f1 := f0 (l.length * 6)
    have f2 := f0 (l.length * 6 + 1)
    have f3 := f0 (l.length * 6 + 1 + 1)
    have f4 := f0 (l.length * 6 + 1 + 2)
    have f5 := f0 (l.length * 6 + 1 + 3)
    have f6 := f0 (l.length * 6 + 1 + 4)
    have f7 := f0 (l.length * 6 + 2)
    have f8 := f0 (l.length * 6 + 3)
    have f9 := f0 (l.length * 6 + 4)
    have g0 := f0 (l.length * 6 + 5)
    have HX := Lib.hid HI.out.2.2.2.1.1
    have H5 := Lib.hid (And.intro hown5 (And.intro hgrow5 hat5))
    clear hown5 hgrow5 hat5
    refine hK.out _ _ (fun h => absurd h (by decide)) ?_
    clear hK K
    simp only [Act.put, List.setIfInBounds_toArray, List.set_cons_zero, List.set_cons_succ]
    refine till_of_any _ _ _ _ (by decide) ?_
    refine any_take (i := 9) (d := some 18) (v := .pointer (some ⟨q, l.length * 6, none⟩)) rfl rfl (by kernel_rfl) (by kernel_rfl) (by kernel_rfl) (fun _ _ _ h => h) (Or.inl ⟨by rfl, ?_⟩) ?_
    · intro w; go_simp
    simp only [Act.put, List.setIfInBounds_toArray, List.set_cons_zero, List.set_cons_succ]
    refine any_take (i := 11) (d := some 19) (v := .pointer (some ⟨W0.heap.size + 2, 4, none⟩)) rfl rfl (by kernel_rfl) (by kernel_rfl) (by kernel_rfl) (fun _ _ _ h => h) (Or.inl ⟨by rfl, ?_⟩) ?_
    · intro w; go_simp
    simp only [Act.put, List.setIfInBounds_toArray, List.set_cons_zero, List.set_cons_succ]
    refine wpAny_ready (rs := [10, 12]) (by kernel_rfl) (by simp) ?_
    refine any_cons (o := ⟨none, .store 45 (.tmp 18) (.tmp 14), 0, "read.go:133", _, none⟩) rfl (fun K hK => ?_) (any_cons (o := ⟨none, .store 29 (.tmp 19) (.tmp 17), 0, "read.go:133", _, none⟩) rfl (fun K hK => ?_) AllReady.nil)
    · go_simp
      refine hK.out _ _ ?_
      clear hK K
      refine wpAny_ready (rs := [12]) (by kernel_rfl) (by simp) ?_
      refine any_cons (o := ⟨none, .store 29 (.tmp 19) (.tmp 17), 0, "read.go:133", _, none⟩) rfl (fun K hK => ?_) AllReady.nil
      go_simp
      refine hK.out _ _ ?_
      clear hK K
      refine wpAny_done (by kernel_rfl) ?_ _
      first
        | go_end0
        | refine bodyPost_ret (results_none rfl _ _ _) rfl ?_
      obtain ⟨fl, fr⟩ := fld_fin (t := ⟨t.toArray⟩) HI.out.1 (n0 := W2.heap.size) (HI.out.2.2.2.2.2 _ (H1.out.2.trans H2.out.2)) HI.out.2.2.2.1 HI.out.2.2.2.2.1 HR (H3.out.2.1.keep (from_alloc _ _ _) (fun k h _ => h)) (H3.out.2.2.1.keep (from_alloc _ _ _) (fun k h _ => h)) H5.out.2.1 H5.out.2.2 (lst2_c W5 (W0.heap.size + 2) q (l.length * 6) 4 (.string ⟨t.toArray⟩) (.slice (some ⟨q, 0, none⟩) (l.length + 1) c3) (.int .u8 g.kind) (.int .i64 g.num) (.string g.str) (.slice BL g.items.length dL) (.slice BO g.vals.length dO)) ((HV5.out.2.2.of_eq (cells6_far W5 q (l.length * 6) (.string ⟨t.toArray⟩) (.int .u8 g.kind) (.int .i64 g.num) (.string g.str) (.slice BL g.items.length dL) (.slice BO g.vals.length dO) hqb)).put 4 (.slice (some ⟨q, 0, none⟩) (l.length + 1) c3)) (ownsRow_setCell_below (own_cells6 HX.out H5.out.1 (.string ⟨t.toArray⟩) (.int .u8 g.kind) (.int .i64 g.num) (.string g.str) (.slice BL g.items.length dL) (.slice BO g.vals.length dO)) (by simp only; omega) (.slice (some ⟨q, 0, none⟩) (l.length + 1) c3))
      exact .inl ⟨(⟨t.toArray⟩, g), k, fld_at HT.out.1 HC2.out.1 H3.out.1, rfl, fl, at_eq (alloc_at H3.out.2.2.2.1 _) (fr R HI.out.1.lt)⟩
    · go_simp
      refine hK.out _ _ ?_
      clear hK K
      refine wpAny_ready (rs := [10]) (by kernel_rfl) (by simp) ?_
      refine any_cons (o := ⟨none, .store 45 (.tmp 18) (.tmp 14), 0, "read.go:133", _, none⟩) rfl (fun K hK => ?_) AllReady.nil
      go_simp
      refine hK.out _ _ ?_
      clear hK K
      refine wpAny_done (by kernel_rfl) ?_ _
      first
        | go_end0
        | refine bodyPost_ret (results_none rfl _ _ _) rfl ?_
      obtain ⟨fl, fr⟩ := fld_fin (t := ⟨t.toArray⟩) HI.out.1 (n0 := W2.heap.size) (HI.out.2.2.2.2.2 _ (H1.out.2.trans H2.out.2)) HI.out.2.2.2.1 HI.out.2.2.2.2.1 HR (H3.out.2.1.keep (from_alloc _ _ _) (fun k h _ => h)) (H3.out.2.2.1.keep (from_alloc _ _ _) (fun k h _ => h)) H5.out.2.1 H5.out.2.2 (lst2_d W5 (W0.heap.size + 2) q (l.length * 6) 4 (.string ⟨t.toArray⟩) (.slice (some ⟨q, 0, none⟩) (l.length + 1) c3) (.int .u8 g.kind) (.int .i64 g.num) (.string g.str) (.slice BL g.items.length dL) (.slice BO g.vals.length dO)) ((HV5.out.2.2.put 4 (.slice (some ⟨q, 0, none⟩) (l.length + 1) c3)).of_eq (cells6_far _ q (l.length * 6) (.string ⟨t.toArray⟩) (.int .u8 g.kind) (.int .i64 g.num) (.string g.str) (.slice BL g.items.length dL) (.slice BO g.vals.length dO) hqb)) (own_cells6 HX.out (ownsRow_setCell_below H5.out.1 (by simp only; omega) (.slice (some ⟨q, 0, none⟩) (l.length + 1) c3)) (.string ⟨t.toArray⟩) (.int .u8 g.kind) (.int .i64 g.num) (.string g.str) (.slice BL g.items.length dL) (.slice BO g.vals.length dO))
      exact .inl ⟨(⟨t.toArray⟩, g), k, fld_at HT.out.1 HC2.out.1 H3.out.1, rfl, fl, at_eq (alloc_at H3.out.2.2.2.1 _) (fr R HI.out.1.lt)⟩
  · go_simp
    refine hK.out _ _ (fun _ => ⟨cell_alloc _ hb0, cell_alloc _ hv4⟩) ?_
    clear hK K
    refine till_ready (rs := [4]) (by kernel_rfl) (by simp) ?_
    refine AllTill.cons (o := ⟨some 13, .call { callee := .value (.func 42), args := #[.tmp 12], argTypes := #[99] }, 31, "read.go:133", _, none⟩) rfl (fun K hK => ?_) AllTill.nil
    go_simp
    (go_at_call 42; refine (HV.out _ (j + 1) ((H1.out.2.trans H2.out.2).trans ((Rd.alloc R W2 _).trans (Rd.drew R _))) ((alloc_at H2.out.1 _).drew)).mono ?_; rintro e W3 (⟨g, k, v, hv, rfl, ⟨L1, O1, rfl, hL1, hO1⟩, hA1, hR⟩ | ⟨hn, v, rfl, hv, hR⟩); rotate_left; exact panic_post rfl (.inr ⟨fun ⟨x, r, h⟩ => hn (fld_val HT.out.1 HC2.out.1 h), _, rfl, hv, HI.out.1.rd.trans ((H1.out.2.trans H2.out.2).trans (((Rd.alloc R W2 _).trans (Rd.drew R _)).trans hR))⟩); obtain ⟨BL, dL, rfl⟩ := lst_form hL1; obtain ⟨BO, dO, rfl⟩ := obj_form hO1; have HB1 := Lib.hid (hR.whole (Whole.new W2 45 #[.string ⟨#[]⟩, .int .u8 0, .int .i64 0, .string ⟨#[]⟩, .slice none 0 0, .slice none 0 0]) (by have := H2.out.1.lt; omega)); have H3 := Lib.hid (And.intro hv (And.intro hL1 (And.intro hO1 (And.intro hA1 ((H1.out.2.trans H2.out.2).trans (((Rd.alloc R W2 _).trans (Rd.drew R _)).trans hR)))))); obtain ⟨k0, k1⟩ := HS.out _ H3.out.2.2.2.2; clear hv hL1 hO1 hA1 hR)
    go_wp2_with fail
    refine hK.out _ _ (fun _ => ⟨k0, k1⟩) ?_
    clear hK K
    refine till_take (i := 5) (d := some 14) (v := .agg #[.string ⟨t.toArray⟩, .int .u8 g.kind, .int .i64 g.num, .string g.str, .slice BL g.items.length dL, .slice BO g.vals.length dO]) rfl rfl (by kernel_rfl) (by kernel_rfl) (by kernel_rfl) (by kernel_rfl) (by kernel_rfl) rfl (fun _ _ _ h => h) (Or.inl ⟨by rfl, ?_⟩) ⟨k0, k1⟩ ?_
    · intro w hS; obtain ⟨h1, h2⟩ := hS; go_simp
    simp only [Act.put, List.setIfInBounds_toArray, List.set_cons_zero, List.set_cons_succ]
    have HR := H3.out.2.2.2.2
    refine till_ready (rs := [8]) (by kernel_rfl) (by simp) ?_
    refine AllTill.cons (o := ⟨some 17, .call { callee := .builtin .append, args := #[.tmp 10, .tmp 16], argTypes := #[29, 29] }, 29, "read.go:133", _, none⟩) rfl (fun K hK => ?_) AllTill.nil
    refine step_append_mine rfl (.tmp 10) (.tmp 16) 29 rfl (W0.heap.size + 3) 45 i0 _ 6 96 Tryd.underlying29 HI0.out HZ0.out.1 HZ0.out.2.1 HZ0.out.2.2 rfl (by decide) (.slice AO l.length cO) l.length xs rfl (own_rd HI.out.2.2.2.1 HR (by have := HI.out.1.lt; omega)) ⟨W2.heap.size, 0, none⟩ 1 1 [.string ⟨#[]⟩, .int .u8 0, .int .i64 0, .string ⟨#[]⟩, .slice none 0 0, .slice none 0 0] rfl rfl (whole_cells HB1.out) (by simp [Value.oneCell']) B.out.1 B.out.2 (by have := HI.out.2.2.1.lt; have := H3.out.2.2.2.2.size; omega) ?_
    intro v5 W5 hown5 hgrow5 hat5
    obtain ⟨A5, c3, rfl⟩ := own_form hown5
    obtain ⟨q, rfl, hq1, hq2, hq3, HC5⟩ := last_factsO HI.out.2.2.2.1 hown5
    have hqa : q ≠ W0.heap.size + 2 := by omega
    have hqb : W0.heap.size + 2 ≠ q := by omega
    have HV5 := Lib.hid (grown_keepsO HI.out.1 HI.out.2.2.1 HI.out.2.2.2.1 HR hgrow5)
    obtain ⟨e1, e2, _⟩ := HV5.out
    obtain ⟨f0, z0, z1, z2, z3, z4, z5, y2, y3, y4, y5⟩ := HC5
    have f1 := f0 (l.length * 6)
    have f2 := f0 (l.length * 6 + 1)
    have f3 := f0 (l.length * 6 + 1 + 1)
    have f4 := f0 (l.length * 6 + 1 + 2)
    have f5 := f0 (l.length * 6 + 1 + 3)
    have f6 := f0 (l.length * 6 + 1 + 4)
    have f7 := f0 (l.length * 6 + 2)
    have f8 := f0 (l.length * 6 + 3)
    have f9 := f0 (l.length * 6 + 4)
    have g0 := f0 (l.length * 6 + 5)
    have HX := Lib.hid HI.out.2.2.2.1.1
    have H5 := Lib.hid (And.intro hown5 (And.intro hgrow5 hat5))
    clear hown5 hgrow5 hat5
    refine hK.out _ _ (fun h => absurd h (by decide)) ?_
    clear hK K
    simp only [Act.put, List.setIfInBounds_toArray, List.set_cons_zero, List.set_cons_succ]
    refine till_of_any _ _ _ _ (by decide) ?_
    refine any_take (i := 9) (d := some 18) (v := .pointer (some ⟨q, l.length * 6, none⟩)) rfl rfl (by kernel_rfl) (by kernel_rfl) (by kernel_rfl) (fun _ _ _ h => h) (Or.inl ⟨by rfl, ?_⟩) ?_
    · intro w; go_simp
    simp only [Act.put, List.setIfInBounds_toArray, List.set_cons_zero, List.set_cons_succ]
    refine any_take (i := 11) (d := some 19) (v := .pointer (some ⟨W0.heap.size + 2, 4, none⟩)) rfl rfl (by kernel_rfl) (by kernel_rfl) (by kernel_rfl) (fun _ _ _ h => h) (Or.inl ⟨by rfl, ?_⟩) ?_
    · intro w; go_simp
    simp only [Act.put, List.setIfInBounds_toArray, List.set_cons_zero, List.set_cons_succ]
    refine wpAny_ready (rs := [10, 12]) (by kernel_rfl) (by simp) ?_
    refine any_cons (o := ⟨none, .store 45 (.tmp 18) (.tmp 14), 0, "read.go:133", _, none⟩) rfl (fun K hK => ?_) (any_cons (o := ⟨none, .store 29 (.tmp 19) (.tmp 17), 0, "read.go:133", _, none⟩) rfl (fun K hK => ?_) AllReady.nil)
    · go_simp
      refine hK.out _ _ ?_
      clear hK K
      refine wpAny_ready (rs := [12]) (by kernel_rfl) (by simp) ?_
      refine any_cons (o := ⟨none, .store 29 (.tmp 19) (.tmp 17), 0, "read.go:133", _, none⟩) rfl (fun K hK => ?_) AllReady.nil
      go_simp
      refine hK.out _ _ ?_
      clear hK K
      refine wpAny_done (by kernel_rfl) ?_ _
      first
        | go_end0
        | refine bodyPost_ret (results_none rfl _ _ _) rfl ?_
      obtain ⟨fl, fr⟩ := fld_fin (t := ⟨t.toArray⟩) HI.out.1 (n0 := (W2.alloc (.cells #[.string ⟨#[]⟩, .int .u8 0, .int .i64 0, .string ⟨#[]⟩, .slice none 0 0, .slice none 0 0] 45)).heap.size) (by have := HI.out.2.2.2.2.2 _ (H1.out.2.trans H2.out.2); simp; omega) HI.out.2.2.2.1 HI.out.2.2.2.2.1 HR (H3.out.2.1) (H3.out.2.2.1) H5.out.2.1 H5.out.2.2 (lst2_c W5 (W0.heap.size + 2) q (l.length * 6) 4 (.string ⟨t.toArray⟩) (.slice (some ⟨q, 0, none⟩) (l.length + 1) c3) (.int .u8 g.kind) (.int .i64 g.num) (.string g.str) (.slice BL g.items.length dL) (.slice BO g.vals.length dO)) ((HV5.out.2.2.of_eq (cells6_far W5 q (l.length * 6) (.string ⟨t.toArray⟩) (.int .u8 g.kind) (.int .i64 g.num) (.string g.str) (.slice BL g.items.length dL) (.slice BO g.vals.length dO) hqb)).put 4 (.slice (some ⟨q, 0, none⟩) (l.length + 1) c3)) (ownsRow_setCell_below (own_cells6 HX.out H5.out.1 (.string ⟨t.toArray⟩) (.int .u8 g.kind) (.int .i64 g.num) (.string g.str) (.slice BL g.items.length dL) (.slice BO g.vals.length dO)) (by simp only; omega) (.slice (some ⟨q, 0, none⟩) (l.length + 1) c3))
      exact .inl ⟨(⟨t.toArray⟩, g), k, fld_at HT.out.1 HC2.out.1 H3.out.1, rfl, fl, at_eq H3.out.2.2.2.1 (fr R HI.out.1.lt)⟩
    · go_simp
      refine hK.out _ _ ?_
      clear hK K
      refine wpAny_ready (rs := [10]) (by kernel_rfl) (by simp) ?_
      refine any_cons (o := ⟨none, .store 45 (.tmp 18) (.tmp 14), 0, "read.go:133", _, none⟩) rfl (fun K hK => ?_) AllReady.nil
      go_simp
      refine hK.out _ _ ?_
      clear hK K
      refine wpAny_done (by kernel_rfl) ?_ _
      first
        | go_end0
        | refine bodyPost_ret (results_none rfl _ _ _) rfl ?_
      obtain ⟨fl, fr⟩ := fld_fin (t := ⟨t.toArray⟩) HI.out.1 (n0 := (W2.alloc (.cells #[.string ⟨#[]⟩, .int .u8 0, .int .i64 0, .string ⟨#[]⟩, .slice none 0 0, .slice none 0 0] 45)).heap.size) (by have := HI.out.2.2.2.2.2 _ (H1.out.2.trans H2.out.2); simp; omega) HI.out.2.2.2.1 HI.out.2.2.2.2.1 HR (H3.out.2.1) (H3.out.2.2.1) H5.out.2.1 H5.out.2.2 (lst2_d W5 (W0.heap.size + 2) q (l.length * 6) 4 (.string ⟨t.toArray⟩) (.slice (some ⟨q, 0, none⟩) (l.length + 1) c3) (.int .u8 g.kind) (.int .i64 g.num) (.string g.str) (.slice BL g.items.length dL) (.slice BO g.vals.length dO)) ((HV5.out.2.2.put 4 (.slice (some ⟨q, 0, none⟩) (l.length + 1) c3)).of_eq (cells6_far _ q (l.length * 6) (.string ⟨t.toArray⟩) (.int .u8 g.kind) (.int .i64 g.num) (.string g.str) (.slice BL g.items.length dL) (.slice BO g.vals.length dO) hqb)) (own_cells6 HX.out (ownsRow_setCell_below H5.out.1 (by simp only; omega) (.slice (some ⟨q, 0, none⟩) (l.length + 1) c3)) (.string ⟨t.toArray⟩) (.int .u8 g.kind) (.int .i64 g.num) (.string g.str) (.slice BL g.items.length dL) (.slice BO g.vals.length dO))
      exact .inl ⟨(⟨t.toArray⟩, g), k, fld_at HT.out.1 HC2.out.1 H3.out.1, rfl, fl, at_eq H3.out.2.2.2.1 (fr R HI.out.1.lt)⟩
end Go.Proofs.YtmmjkhkcffgeiaaDoor
