/- one: whatever the pieces are, a sound value comes out; it lies in new memory. -/
import Derived.Test.YtmmjkhkcffgeiaaDoorOneInv
import Derived.WalkKit
import Derived.Laws.BitsLemmas
import Derived.WalkSpells
import Derived.WalkLawsBesides
import Derived.Lib.Hide
namespace Go.Proofs.YtmmjkhkcffgeiaaDoor
open Go Go.RowKit

theorem one_nil (A : Option Addr) (cap : Nat) (d : Nat) (hd : d ≤ 6) (z : Int) (w : World) :
    Calls Tryd.prog 30 #[.slice A 0 cap, .int .i64 z] w (OnePost [] d w) := by
  go_enter Tryd.func30, Tryd.ntmps30
  go_wp2
  refine bodyPost_ret (v := .tuple #[.agg #[.int .u8 0, .int .i64 0, .string ⟨#[]⟩, .slice none 0 0, .slice none 0 0], .int .i64 0]) (by simp [results, Tryd.results30, go_sem]) rfl ?_
  exact ⟨.mk 0 0 ⟨#[]⟩ [] [] [], _, _, 0, rfl, .inl ⟨rfl, rfl⟩, ⟨rfl, .inl ⟨rfl, rfl⟩⟩, good_null d hd, Nat.zero_le _, fun h => absurd rfl h, fun _ => rfl, by decide, (Below.refl _ _).alloc (Nat.le_refl _) _⟩

def OneRelL (w : World) (t : GTok) (ts : List GTok) (d : Nat) (used i : Value) (wr : World) : Prop :=
  ∃ (u k : Nat) (l : List GV) (vL : Value) (xs : List Value), used = .int .i64 u ∧ i = .int .u8 k ∧ 1 ≤ u ∧ u ≤ ts.length ∧ (k : Int) ≤ t.m % 4 ∧ OneL w t ts d u k l vL xs wr
def OneRelO (w : World) (t : GTok) (ts : List GTok) (d : Nat) (used i : Value) (wr : World) : Prop :=
  ∃ (u k : Nat) (ks : List ByteArray) (ov : List GV) (vO : Value), used = .int .i64 u ∧ i = .int .u8 k ∧ 1 ≤ u ∧ u ≤ ts.length ∧ (k : Int) ≤ t.m % 4 ∧ OneO w t ts d u k ks ov vO wr

theorem i64_and1 (n : Int) : bits .and .i64 n 1 = 0 ∨ bits .and .i64 n 1 = 1 := by
  have h1 : (BitVec.ofInt 64 1).toNat = 2 ^ 1 - 1 := by decide
  have key : (BitVec.ofInt 64 n &&& BitVec.ofInt 64 1).toNat = (n % ((2 ^ 64 : Nat) : Int)).toNat % 2 ^ 1 := by
    rw [BitVec.toNat_and, BitVec.toNat_ofInt, h1, Nat.and_two_pow_sub_one_eq_mod]
  show IntKind.i64.wrap ((BitVec.ofInt 64 n &&& BitVec.ofInt 64 1).toNat : Nat) = 0 ∨ IntKind.i64.wrap ((BitVec.ofInt 64 n &&& BitVec.ofInt 64 1).toNat : Nat) = 1
  rw [key, IntKind.wrap_i64]
  omega
theorem two {wr W1 : World} (h : Below wr.heap.size wr W1) {o o' : Obj} : Below wr.heap.size wr ((W1.alloc o).alloc o') := (h.alloc h.size _).alloc (by have := h.size; simp; omega) _
theorem one1 {wr W1 : World} (h : Below wr.heap.size wr W1) {o : Obj} : Below wr.heap.size wr (W1.alloc o) := h.alloc h.size _
theorem one1_keep {W1 : World} {ok : Nat → Prop} (o : Obj) : From ok W1 (W1.alloc o) := fun _ _ hj => Below.heap_alloc _ _ _ hj
theorem two_keep {W1 : World} {ok : Nat → Prop} (o o' : Obj) : From ok W1 ((W1.alloc o).alloc o') := fun j _ hj => by rw [Below.heap_alloc _ _ _ (by simp; omega), Below.heap_alloc _ _ _ hj]
theorem one_begin {w : World} {t : GTok} {o : Obj} : Ones w t (((w.alloc (.cells #[.int .u8 0, .int .i64 0, .string ⟨#[]⟩, .slice none 0 0, .slice none 0 0] 31)).alloc (.cells #[.int .u8 t.k, .int .i64 t.n, .string t.s, .int .u8 t.m] 58)).alloc o) := by
  refine ⟨(((Below.refl _ _).alloc (Nat.le_refl _) _).alloc (by simp) _).alloc (by simp; omega) _, ?_, _, rfl, ((Whole.new w _ _).alloc _).alloc _⟩
  have h := (Whole.new (w.alloc (.cells #[.int .u8 0, .int .i64 0, .string ⟨#[]⟩, .slice none 0 0, .slice none 0 0] 31)) 58 #[.int .u8 t.k, .int .i64 t.n, .string t.s, .int .u8 t.m]).alloc o
  rw [World.size_alloc] at h
  exact h
theorem one_box {w : World} {o o' : Obj} {t : TypeId} {cs : Array Value} : Whole (((w.alloc o).alloc o').alloc (.cells cs t)) (w.heap.size + 2) t cs := by
  have h := Whole.new ((w.alloc o).alloc o') t cs
  rw [World.size_alloc, World.size_alloc] at h
  exact h
/-- The call of one for what is left of the pieces. -/
theorem one_rest {F hi n u d cap ab ao : Nat} {w wr : World} {t : GTok} {rest : List GTok}
    (IH : ∀ (hi : Nat) (A : Option Addr) (cap : Nat) (ts : List GTok) (d : Nat) (w : World), ts.length ≤ F → ts.length ≤ cap → cap ≤ maxLen → ts.length ≤ 200 → d ≤ 6 → hi ≤ w.heap.size → Toks hi w A ts →
      (∀ t ∈ ts, 0 ≤ t.k ∧ t.k ≤ 255 ∧ 0 ≤ t.m ∧ t.m ≤ 255) → (∀ t ∈ ts, t.s.size ≤ 140737488351232) → Calls Tryd.prog 30 #[.slice A ts.length cap, .int .i64 d] w (OnePost ts d w))
    (HN : (t :: rest).length = n) (HT : Toks hi w (some ⟨ab, ao, none⟩) (t :: rest)) (h : Ones w t wr) (HR : ∀ x ∈ t :: rest, 0 ≤ x.k ∧ x.k ≤ 255 ∧ 0 ≤ x.m ∧ x.m ≤ 255) (HSZ : ∀ x ∈ t :: rest, x.s.size ≤ 140737488351232)
    (hF : n ≤ F + 1) (hcap : n ≤ cap) (hm : cap ≤ maxLen) (h200 : n ≤ 200) (hd : d + 1 ≤ 6) (hhi : hi ≤ w.heap.size) (hl : ab < hi) (hu1 : 1 ≤ u) (hun : u ≤ n) (A : Option Addr) (c : Nat) (hA : u = n ∨ A = some ⟨ab, ao + u * 4, none⟩ ∧ c = cap - u) :
    Calls Tryd.prog 30 #[.slice A (n - u) c, .int .i64 ((d : Int) + 1)] wr (OnePost ((t :: rest).drop u) (d + 1) wr) := by
  rcases hA with rfl | ⟨rfl, rfl⟩
  · have e : (t :: rest).drop u = [] := List.drop_of_length_le (by omega)
    rw [e, Nat.sub_self]
    exact one_nil A c (d + 1) hd _ wr
  · have hTk : Toks hi wr (some ⟨ab, ao + u * 4, none⟩) ((t :: rest).drop u) := fun _ => ⟨⟨ab, ao + u * 4, none⟩, rfl, rfl, hl, fun i t' ht' => by
      have := (HT.keep (h.below.mono hhi) (Nat.le_refl _)) (by simp)
      obtain ⟨a, ha, _, _, hc⟩ := this
      cases ha
      have := hc (u + i) t' (by rw [← ht', List.getElem?_drop])
      simp only [show ao + u * 4 + i * 4 = ao + (u + i) * 4 by omega]
      exact this⟩
    have := IH hi (some ⟨ab, ao + u * 4, none⟩) (cap - u) ((t :: rest).drop u) (d + 1) wr (by rw [List.length_drop, HN]; omega) (by rw [List.length_drop, HN]; omega) (by unfold maxLen at *; omega) (by rw [List.length_drop, HN]; omega) hd (by have := h.below.size; omega) hTk (fun x hx => HR x (List.mem_of_mem_drop hx)) (fun x hx => HSZ x (List.mem_of_mem_drop hx))
    rw [List.length_drop, HN] at this
    exact this

set_option maxRecDepth 100000 in
set_option maxHeartbeats 8000000 in
theorem one_any (F : Nat) : ∀ (hi : Nat) (A : Option Addr) (cap : Nat) (ts : List GTok) (d : Nat) (w : World), ts.length ≤ F → ts.length ≤ cap → cap ≤ maxLen → ts.length ≤ 200 → d ≤ 6 → hi ≤ w.heap.size → Toks hi w A ts →
    (∀ t ∈ ts, 0 ≤ t.k ∧ t.k ≤ 255 ∧ 0 ≤ t.m ∧ t.m ≤ 255) → (∀ t ∈ ts, t.s.size ≤ 140737488351232) →
    Calls Tryd.prog 30 #[.slice A ts.length cap, .int .i64 d] w (OnePost ts d w) := by
  induction F with
  | zero =>
    intro hi A cap ts d w hF _ _ _ hd _ _ _ _
    have : ts = [] := List.eq_nil_of_length_eq_zero (by omega)
    subst this
    exact one_nil A cap d hd _ w
  | succ F ih =>
    intro hi A cap ts d w hF hcap hm h200 hd hhi hT hrange hsz
    by_cases hts : ts = []
    · subst hts; exact one_nil A cap d hd _ w
    obtain ⟨⟨ab, ao, _⟩, rfl, rfl, hl, hc⟩ := hT hts
    obtain ⟨t, rest, rfl⟩ : ∃ t r, ts = t :: r := by cases ts with | nil => exact absurd rfl hts | cons t r => exact ⟨t, r, rfl⟩
    obtain ⟨hc0, hc1, hc2, hc3⟩ := hc 0 t rfl
    simp only [Nat.zero_mul, Nat.add_zero] at hc0 hc1 hc2 hc3
    simp only at hl
    have hcA : ∀ (o : Obj) (j : Nat) (v : Value), w.cell? ⟨ab, j, none⟩ = some v → (w.alloc o).cell? ⟨ab, j, none⟩ = some v := fun o j v h => (World.cell?_of_block (a := ⟨ab, j, none⟩) (Below.heap_alloc w o ab (by omega))).trans h
    have hd0 := fun o => hcA o _ _ hc0
    have hd1 := fun o => hcA o _ _ hc1
    have hd2 := fun o => hcA o _ _ hc2
    have hd3 := fun o => hcA o _ _ hc3
    clear hcA hc0 hc1 hc2 hc3
    obtain ⟨hk0, hk1, hm0, hm1⟩ := hrange t (by simp)
    have hts0 := hsz t (by simp)
    have hpz : (plainB t.s).size ≤ 40 := plain_size _
    unfold maxLen at hm
    have HT := Lib.hid hT
    have HC := Lib.hid hc
    have HR := Lib.hid hrange
    have HI := Lib.hid ih
    have HSZ := Lib.hid hsz
    have HNE := Lib.hid hts
    clear hT hc hrange ih hts hsz
    generalize hn : (t :: rest).length = n at *
    have HN := Lib.hid hn
    have hn1 : 1 ≤ n := by rw [← hn]; simp
    clear hn
    have hnz : ((n : Int) == 0) = false := by simp; omega
    have hpl := fun W => plain_any t.s W (by omega)
    have HPL := Lib.hid hpl
    clear hpl
    have hj : t.k % 6 = 0 ∨ t.k % 6 = 1 ∨ t.k % 6 = 2 ∨ t.k % 6 = 3 ∨ t.k % 6 = 4 ∨ t.k % 6 = 5 := by omega
    have hb2 : ∀ (o1 o2 : Obj), Below w.heap.size w ((w.alloc o1).alloc o2) := fun o1 o2 => ((Below.refl _ _).alloc (Nat.le_refl _) _).alloc (by simp) _
    have HB2 := Lib.hid hb2
    clear hb2
    rcases hj with hj | hj | hj | hj | hj | hj
    · go_enter Tryd.func30, Tryd.ntmps30
      go_wp2
      refine bodyPost_ret (v := .tuple #[.agg #[.int .u8 0, .int .i64 0, .string ⟨#[]⟩, .slice none 0 0, .slice none 0 0], .int .i64 1]) (by simp [results, Tryd.results30, go_sem]) rfl ?_
      exact one_leaf (g := .mk 0 0 ⟨#[]⟩ [] [] []) (good_null d hd) rfl rfl rfl (by decide) HNE.out (HB2.out _ _)
    · go_enter Tryd.func30, Tryd.ntmps30
      go_wp2
      refine bodyPost_ret (v := .tuple #[.agg #[.int .u8 1, .int .i64 _, .string ⟨#[]⟩, .slice none 0 0, .slice none 0 0], .int .i64 1]) (by simp [results, Tryd.results30, go_sem]; rfl) rfl ?_
      exact one_leaf (g := .mk 1 (bits .and .i64 t.n 1) ⟨#[]⟩ [] [] []) (good_bool d hd _ (i64_and1 _)) rfl rfl rfl (by show (⟨#[]⟩ : ByteArray).size ≤ 40; decide) HNE.out (HB2.out _ _)
    · go_enter Tryd.func30, Tryd.ntmps30
      go_wp2
      refine bodyPost_ret (v := .tuple #[.agg #[.int .u8 2, .int .i64 t.n, .string ⟨#[]⟩, .slice none 0 0, .slice none 0 0], .int .i64 1]) (by simp [results, Tryd.results30, go_sem]) rfl ?_
      exact one_leaf (g := .mk 2 t.n ⟨#[]⟩ [] [] []) (good_int d hd _ t.hn) rfl rfl rfl (by show (⟨#[]⟩ : ByteArray).size ≤ 40; decide) HNE.out (HB2.out _ _)
    · go_enter Tryd.func30, Tryd.ntmps30
      go_wp2_with (go_at_call 45; refine (HPL.out _).mono ?_; rintro e W1 ⟨rfl, hb1⟩; have HB1 := Lib.hid hb1; obtain ⟨x0, x1, x2, x3, x4, f0, f1, f2, f3, f4⟩ := (((Whole.new w 31 #[.int .u8 0, .int .i64 0, .string ⟨#[]⟩, .slice none 0 0, .slice none 0 0]).alloc (.cells #[.int .u8 t.k, .int .i64 t.n, .string t.s, .int .u8 t.m] 58)).below hb1 (by simp; omega)).five; clear hb1)
      refine bodyPost_ret (v := .tuple #[.agg #[.int .u8 3, .int .i64 0, .string (plainB t.s), .slice none 0 0, .slice none 0 0], .int .i64 1]) (by simp [results, Tryd.results30, go_sem, x0, x1, x2, x3, x4]) rfl ?_
      exact one_leaf (g := .mk 3 0 (plainB t.s) [] [] []) (good_text d hd _ (plain_valid _) (asc_plain _)) rfl rfl rfl hpz HNE.out (put5_below ((HB2.out _ _).trans (HB1.out.mono (by simp; omega))) (Nat.le_refl _) _ _ _ _ _)
    · go_enter Tryd.func30, Tryd.ntmps30
      go_wp2
      clear hj
      go_loopw [7, 9] (OneRelL w t (t :: rest) d) (fun _ i _ => (t.m % 4 - intOf i).toNat)
      case atStart =>
        refine ⟨1, 0, [], _, [], rfl, rfl, Nat.le_refl _, by simp, by simp only [Int.ofNat_zero]; omega, one_begin, ?_, World.ownsRow_nil _ _ _ _, rfl, (by simp), by simp [GV.masses], rfl⟩
        exact one_box
      case round =>
        obtain ⟨u, k, l, vL, xs, rfl, rfl, hu1, hu2, hk, h⟩ := hrel
        obtain ⟨AL, cL, rfl⟩ := own_form h.own
        have ht3 : wr.cell? ⟨w.heap.size + 1, 3, none⟩ = some (.int .u8 t.m) := (h.ones.tok.cell 3).trans rfl
        have hun : u ≤ n := by rw [← HN.out]; exact hu2
        have HU := Lib.hid hu2
        have HP := Lib.hid h
        clear hu2 h
        by_cases hgo : (k : Int) < t.m % 4 ∧ d < 6
        · obtain ⟨hlt, hd6⟩ := hgo
          have hd6z : (d : Int) < 6 := by omega
          have hk3 : (k : Int) ≤ 3 := by omega
          have hmax : l.length + 1 ≤ maxLen := by have := HP.out.len; unfold maxLen; omega
          have hby : (l.length + 1) * 80 ≤ 140737488355328 := by have := HP.out.len; omega
          have HM := Lib.hid (And.intro hmax hby)
          obtain ⟨i0, hi0, hz0, hz1, hz2⟩ := info_parts infoVal
          have HI0 := Lib.hid (And.intro hi0 (And.intro hz0 (And.intro hz1 hz2)))
          clear hi0 hz0 hz1 hz2 hmax hby
          have hcall : ∀ A c, (u = n ∨ A = some ⟨ab, ao + u * 4, none⟩ ∧ c = cap - u) → Calls Tryd.prog 30 #[.slice A (n - u) c, .int .i64 ((d : Int) + 1)] wr (OnePost ((t :: rest).drop u) (d + 1) wr) := fun A c hA => one_rest HI.out HN.out HT.out HP.out.ones HR.out HSZ.out hF hcap (by unfold maxLen; omega) h200 (by omega) hhi hl hu1 hun A c hA
          have HC2 := Lib.hid hcall
          have HDR := Lib.hid (show ((t :: rest).drop u).length = n - u by rw [List.length_drop, HN.out])
          clear hcall
          by_cases hend : u = n
          · subst hend
            have hz : u - u = 0 := Nat.sub_self u
            rw [hz] at HC2
            go_wp2_with (first | (go_at_call 30; refine (HC2.out _ _ (.inl rfl)).mono ?_; rintro e W1 ⟨g, L, O, n1, rfl, hL, hO, hgd, hn1, hn2, hn3, hw1, hb1⟩; obtain ⟨BL, dL, rfl⟩ := lst_form hL; obtain ⟨BO, dO, rfl⟩ := obj_form hO; have H1 := Lib.hid (And.intro hL (And.intro hO (And.intro hgd (And.intro hn2 (And.intro hw1 hb1))))); have hn1' : n1 ≤ 0 := by { have := HDR.out; omega }; have hq := HP.out.step hb1; have q3 : ∀ o, (W1.alloc o).cell? ⟨w.heap.size + 1 + 1, 3, none⟩ = some (.slice AL l.length cL) := fun o => cell_alloc o ((hq.val.cell 3).trans rfl); clear hL hO hgd hn1 hn2 hn3 hw1 hb1 hq) | (at_builtin; refine wpList_append_own_at _ rfl (.tmp 71) (.tmp 73) 28 rfl (w.heap.size + 3) 31 i0 _ 5 80 Tryd.underlying28 HI0.out.1 HI0.out.2.1 HI0.out.2.2.1 HI0.out.2.2.2 rfl (by decide) (.slice AL l.length cL) l.length xs rfl ((HP.out.step (two H1.out.2.2.2.2.2)).own) ⟨W1.heap.size + 1, 0, none⟩ 1 1 (chunk g (.slice BL g.items.length dL) (.slice BO g.vals.length dO)) rfl rfl (row_cells' _ _ (by simp) _ _) (by simp [chunk, Value.oneCell']) HM.out.1 HM.out.2 (by have := HP.out.val.lt; have := H1.out.2.2.2.2.2.size; simp; omega) ?_; intro v3 W3 hown3 hgrow3 _ hat3; obtain ⟨A3, c3, rfl⟩ := own_form hown3; have hq := ((HP.out.step (two H1.out.2.2.2.2.2)).val.grown hgrow3 (fun e => by have := (HP.out.own.lt _ e.symm).1; omega)); have w31 : W3.cell? ⟨w.heap.size + 1 + 1, 3, none⟩ = some (.slice AL l.length cL) := (hq.cell 3).trans rfl; have w32 : W3.frozen? ⟨w.heap.size + 1 + 1, 3, none⟩ = false := hq.frozen 3; have H3 := Lib.hid (And.intro hown3 (And.intro hgrow3 hat3)); clear hown3 hgrow3 hat3 hq))
            all_goals
              go_roundw
              case rel => exact ⟨u + n1, k + 1, _, _, _, by go_num, by go_num, by omega, by rw [HN.out]; omega, by push_cast; omega, HP.out.add hu1 (two H1.out.2.2.2.2.2) (H1.out.1.keep (two_keep _ _) (fun _ h _ => h)) (H1.out.2.1.keep (two_keep _ _) (fun _ h _ => h)) H1.out.2.2.1 (by have := H1.out.2.2.2.2.1; split at this <;> omega) H3.out.1 H3.out.2.1 H3.out.2.2⟩
              case measure => simp [intOf]; omega
          · have hcu : ¬ cap = u := by omega
            go_wp2_with (first | (go_at_call 30; refine (HC2.out (some ⟨ab, ao + u * 4, none⟩) (cap - u) (.inr ⟨rfl, rfl⟩)).mono ?_; rintro e W1 ⟨g, L, O, n1, rfl, hL, hO, hgd, hn1, hn2, hn3, hw1, hb1⟩; obtain ⟨BL, dL, rfl⟩ := lst_form hL; obtain ⟨BO, dO, rfl⟩ := obj_form hO; have H1 := Lib.hid (And.intro hL (And.intro hO (And.intro hgd (And.intro hn2 (And.intro hw1 hb1))))); have hn1' : n1 ≤ n - u := by { have := HDR.out; omega }; have hq := HP.out.step hb1; have q3 : ∀ o, (W1.alloc o).cell? ⟨w.heap.size + 1 + 1, 3, none⟩ = some (.slice AL l.length cL) := fun o => cell_alloc o ((hq.val.cell 3).trans rfl); clear hL hO hgd hn1 hn2 hn3 hw1 hb1 hq) | (at_builtin; refine wpList_append_own_at _ rfl (.tmp 71) (.tmp 73) 28 rfl (w.heap.size + 3) 31 i0 _ 5 80 Tryd.underlying28 HI0.out.1 HI0.out.2.1 HI0.out.2.2.1 HI0.out.2.2.2 rfl (by decide) (.slice AL l.length cL) l.length xs rfl ((HP.out.step (two H1.out.2.2.2.2.2)).own) ⟨W1.heap.size + 1, 0, none⟩ 1 1 (chunk g (.slice BL g.items.length dL) (.slice BO g.vals.length dO)) rfl rfl (row_cells' _ _ (by simp) _ _) (by simp [chunk, Value.oneCell']) HM.out.1 HM.out.2 (by have := HP.out.val.lt; have := H1.out.2.2.2.2.2.size; simp; omega) ?_; intro v3 W3 hown3 hgrow3 _ hat3; obtain ⟨A3, c3, rfl⟩ := own_form hown3; have hq := ((HP.out.step (two H1.out.2.2.2.2.2)).val.grown hgrow3 (fun e => by have := (HP.out.own.lt _ e.symm).1; omega)); have w31 : W3.cell? ⟨w.heap.size + 1 + 1, 3, none⟩ = some (.slice AL l.length cL) := (hq.cell 3).trans rfl; have w32 : W3.frozen? ⟨w.heap.size + 1 + 1, 3, none⟩ = false := hq.frozen 3; have H3 := Lib.hid (And.intro hown3 (And.intro hgrow3 hat3)); clear hown3 hgrow3 hat3 hq))
            go_roundw
            case rel => first | exact ⟨u + n1, k + 1, _, _, _, by go_num, by go_num, by omega, by rw [HN.out]; omega, by push_cast; omega, HP.out.add hu1 (two H1.out.2.2.2.2.2) (H1.out.1.keep (two_keep _ _) (fun _ h _ => h)) (H1.out.2.1.keep (two_keep _ _) (fun _ h _ => h)) H1.out.2.2.1 (by have := H1.out.2.2.2.2.1; split at this <;> omega) H3.out.1 H3.out.2.1 H3.out.2.2⟩ | ((repeat apply Exists.intro); exact ⟨⟨u + n1, k + 1, _, _, _, by go_num, by go_num, by omega, by rw [HN.out]; omega, by push_cast; omega, HP.out.add hu1 (two H1.out.2.2.2.2.2) (H1.out.1.keep (two_keep _ _) (fun _ h _ => h)) (H1.out.2.1.keep (two_keep _ _) (fun _ h _ => h)) H1.out.2.2.1 (by have := H1.out.2.2.2.2.1; split at this <;> omega) H3.out.1 H3.out.2.1 H3.out.2.2⟩, rfl⟩)
            case measure => simp [intOf]; omega
        · obtain ⟨v0, v1, v2, v3, v4, _⟩ := HP.out.val.five
          obtain ⟨⟨cs⟩, hcs, hr⟩ := HP.out.ones.res
          match cs, hcs with
          | [z0, z1, z2, z3, z4], _ =>
            obtain ⟨y0, y1, y2, y3, y4, f0, f1, f2, f3, f4⟩ := hr.five
            have hk3 : k ≤ 3 := by omega
            by_cases hlt : (k : Int) < t.m % 4
            · have hd6 : ¬ (d : Int) < 6 := by omega
              clear hgo
              go_wp2
              refine bodyPost_ret (v := .tuple #[.agg #[.int .u8 4, .int .i64 0, .string ⟨#[]⟩, .slice AL l.length cL, .slice none 0 0], .int .i64 u]) (by simp [results, Tryd.results30, go_sem, y0, y1, y2, y3, y4]) rfl ?_
              exact HP.out.done hd hu1 HU.out hk3 (Below.refl _ _) _ _ _ _ _
            · clear hgo
              go_wp2
              refine bodyPost_ret (v := .tuple #[.agg #[.int .u8 4, .int .i64 0, .string ⟨#[]⟩, .slice AL l.length cL, .slice none 0 0], .int .i64 u]) (by simp [results, Tryd.results30, go_sem, y0, y1, y2, y3, y4]) rfl ?_
              exact HP.out.done hd hu1 HU.out hk3 (Below.refl _ _) _ _ _ _ _
    · go_enter Tryd.func30, Tryd.ntmps30
      go_wp2
      clear hj
      go_loopw [7, 13] (OneRelO w t (t :: rest) d) (fun _ i _ => (t.m % 4 - intOf i).toNat)
      case atStart =>
        refine ⟨1, 0, [], [], _, rfl, rfl, Nat.le_refl _, by simp, by simp only [Int.ofNat_zero]; omega, one_begin, ?_, ⟨rfl, .inl ⟨rfl, rfl⟩⟩, keysOk_nil, (by simp), by simp [GV.masses, ksum], Nat.le_refl _⟩
        exact one_box
      case round =>
        obtain ⟨u, k, ks, ov, vO, rfl, rfl, hu1, hu2, hk, h⟩ := hrel
        obtain ⟨AO, cO, rfl⟩ := obj_form h.obj
        have ht3 : wr.cell? ⟨w.heap.size + 1, 3, none⟩ = some (.int .u8 t.m) := (h.ones.tok.cell 3).trans rfl
        have hun : u ≤ n := by rw [← HN.out]; exact hu2
        have HU := Lib.hid hu2
        have HP := Lib.hid h
        clear hu2 h
        by_cases hgo : (k : Int) < t.m % 4 ∧ d < 6
        · obtain ⟨hlt, hd6⟩ := hgo
          have hd6z : (d : Int) < 6 := by omega
          have hk3 : (k : Int) ≤ 3 := by omega
          have hcall : ∀ W, Below wr.heap.size wr W → ∀ A c, (u = n ∨ A = some ⟨ab, ao + u * 4, none⟩ ∧ c = cap - u) → Calls Tryd.prog 30 #[.slice A (n - u) c, .int .i64 ((d : Int) + 1)] W (OnePost ((t :: rest).drop u) (d + 1) W) := fun W hW A c hA => one_rest HI.out HN.out HT.out (HP.out.ones.step hW) HR.out HSZ.out hF hcap (by unfold maxLen; omega) h200 (by omega) hhi hl hu1 hun A c hA
          have HC2 := Lib.hid hcall
          have HDR := Lib.hid (show ((t :: rest).drop u).length = n - u by rw [List.length_drop, HN.out])
          clear hcall
          by_cases hend : u = n
          · subst hend
            have hz : u - u = 0 := Nat.sub_self u
            rw [hz] at HC2
            have HBP := Lib.hid (Below.refl wr.heap.size wr)
            go_wp2_with (first | (go_at_call 30; refine (HC2.out _ HBP.out _ _ (.inl rfl)).mono ?_; rintro e W1 ⟨g, L, O, n1, rfl, hL, hO, hgd, hn1, hn2, hn3, hw1, hb1⟩; obtain ⟨BL, dL, rfl⟩ := lst_form hL; obtain ⟨BO, dO, rfl⟩ := obj_form hO; have hb2 := HBP.out.trans (hb1.mono HBP.out.size); have H1 := Lib.hid (And.intro hL (And.intro hO (And.intro hgd (And.intro hn2 (And.intro hw1 hb2))))); have hn1' : n1 ≤ 0 := by { have := HDR.out; omega }; have hq := HP.out.step hb2; have q4 : ∀ o, (W1.alloc o).cell? ⟨w.heap.size + 1 + 1, 4, none⟩ = some (.slice AO ov.length cO) := fun o => cell_alloc o ((hq.val.cell 4).trans rfl); clear hL hO hgd hn1 hn2 hn3 hw1 hb1 hb2 hq) | (go_at_call 46; refine (with_any (fun j => w.heap.size + 3 ≤ j) _ ks ov ⟨#[]⟩ g _ _ ((HP.out.step (one1 H1.out.2.2.2.2.2)).obj) (GV.val_keep (one1_keep _) (fun j hj _ => by have h0 := HP.out.val.lt; have h9 := HBP.out.size; omega) (⟨_, _, rfl, H1.out.1, H1.out.2.1⟩)) (by have := HP.out.len; omega)).mono ?_; rintro e W3 ⟨v3, rfl, hobj, hb3⟩; obtain ⟨A3, c3, rfl⟩ := obj_form hobj; have hq := (HP.out.step (one1 H1.out.2.2.2.2.2)).step hb3; have w31 : W3.cell? ⟨w.heap.size + 1 + 1, 4, none⟩ = some (.slice AO ov.length cO) := (hq.val.cell 4).trans rfl; have w32 : W3.frozen? ⟨w.heap.size + 1 + 1, 4, none⟩ = false := hq.val.frozen 4; have H3 := Lib.hid (And.intro (hobj.keep (ok' := fun j => w.heap.size + 3 ≤ j) (From.refl _ _) (fun j hj _ => by rcases hj with hj | hj; exact hj; have := HP.out.val.lt; have := H1.out.2.2.2.2.2.size; simp at hj; omega)) hb3); clear hobj hb3 hq))
            all_goals
              go_roundw
              case rel => exact ⟨u + n1, k + 1, _, _, _, by go_num, by go_num, by omega, by rw [HN.out]; omega, by push_cast; omega, HP.out.add hu1 (one1 H1.out.2.2.2.2.2) H3.out.2 H3.out.1 rfl H1.out.2.2.1 (by have := H1.out.2.2.2.2.1; have e0 : (⟨#[]⟩ : ByteArray).size = 0 := rfl; split at this <;> omega)⟩
              case measure => simp [intOf]; omega
          · have hcu : ¬ cap = u := by omega
            have hlu : u < n := by omega
            have hlu2 : u < (t :: rest).length := by rw [HN.out]; exact hlu
            have hx2 : wr.cell? ⟨ab, ao + u * 4 + 2, none⟩ = some (.string ((t :: rest)[u]'hlu2).s) := by
              obtain ⟨a, ha, _, _, hc⟩ := HT.out.keep (HP.out.ones.below.mono hhi) (Nat.le_refl _) (by simp)
              cases ha
              exact (hc u _ (List.getElem?_eq_getElem hlu2)).2.2.1
            have hs2 := HSZ.out _ (List.getElem_mem hlu2)
            generalize ((t :: rest)[u]'hlu2).s = sk at *
            have hu0 : (0 : Int) ≤ (u : Int) := by omega
            have hu9 : (u : Int) < (n : Int) := by omega
            have HPK := Lib.hid (fun W => plain_any sk W (by omega))
            clear hlu2
            go_wp2_with (first | (go_at_call 45; refine (HPK.out _).mono ?_; rintro e W0 ⟨rfl, hb0⟩; have HBP := Lib.hid hb0; clear hb0) | (go_at_call 30; refine (HC2.out _ HBP.out (some ⟨ab, ao + u * 4, none⟩) (cap - u) (.inr ⟨rfl, rfl⟩)).mono ?_; rintro e W1 ⟨g, L, O, n1, rfl, hL, hO, hgd, hn1, hn2, hn3, hw1, hb1⟩; obtain ⟨BL, dL, rfl⟩ := lst_form hL; obtain ⟨BO, dO, rfl⟩ := obj_form hO; have hb2 := HBP.out.trans (hb1.mono HBP.out.size); have H1 := Lib.hid (And.intro hL (And.intro hO (And.intro hgd (And.intro hn2 (And.intro hw1 hb2))))); have hn1' : n1 ≤ n - u := by { have := HDR.out; omega }; have hq := HP.out.step hb2; have q4 : ∀ o, (W1.alloc o).cell? ⟨w.heap.size + 1 + 1, 4, none⟩ = some (.slice AO ov.length cO) := fun o => cell_alloc o ((hq.val.cell 4).trans rfl); clear hL hO hgd hn1 hn2 hn3 hw1 hb1 hb2 hq) | (go_at_call 46; refine (with_any (fun j => w.heap.size + 3 ≤ j) _ ks ov (plainB sk) g _ _ ((HP.out.step (one1 H1.out.2.2.2.2.2)).obj) (GV.val_keep (one1_keep _) (fun j hj _ => by have h0 := HP.out.val.lt; have h9 := HBP.out.size; omega) (⟨_, _, rfl, H1.out.1, H1.out.2.1⟩)) (by have := HP.out.len; omega)).mono ?_; rintro e W3 ⟨v3, rfl, hobj, hb3⟩; obtain ⟨A3, c3, rfl⟩ := obj_form hobj; have hq := (HP.out.step (one1 H1.out.2.2.2.2.2)).step hb3; have w31 : W3.cell? ⟨w.heap.size + 1 + 1, 4, none⟩ = some (.slice AO ov.length cO) := (hq.val.cell 4).trans rfl; have w32 : W3.frozen? ⟨w.heap.size + 1 + 1, 4, none⟩ = false := hq.val.frozen 4; have H3 := Lib.hid (And.intro (hobj.keep (ok' := fun j => w.heap.size + 3 ≤ j) (From.refl _ _) (fun j hj _ => by rcases hj with hj | hj; exact hj; have := HP.out.val.lt; have := H1.out.2.2.2.2.2.size; simp at hj; omega)) hb3); clear hobj hb3 hq))
            go_roundw
            case rel => exact ⟨u + n1, k + 1, _, _, _, by go_num, by go_num, by omega, by rw [HN.out]; omega, by push_cast; omega, HP.out.add hu1 (one1 H1.out.2.2.2.2.2) H3.out.2 H3.out.1 (plain_valid _) H1.out.2.2.1 (by have h1 := H1.out.2.2.2.2.1; have h2 := plain_size sk; have h3 := H1.out.2.2.2.1 (fun e => by have h5 := HDR.out; rw [e] at h5; simp at h5; omega); rw [if_neg (by omega)] at h1; omega)⟩
            case measure => simp [intOf]; omega
        · obtain ⟨v0, v1, v2, v3, v4, _⟩ := HP.out.val.five
          obtain ⟨⟨cs⟩, hcs, hr⟩ := HP.out.ones.res
          match cs, hcs with
          | [z0, z1, z2, z3, z4], _ =>
            obtain ⟨y0, y1, y2, y3, y4, f0, f1, f2, f3, f4⟩ := hr.five
            have hk3 : k ≤ 3 := by omega
            by_cases hlt : (k : Int) < t.m % 4
            · have hd6 : ¬ (d : Int) < 6 := by omega
              clear hgo
              go_wp2
              refine bodyPost_ret (v := .tuple #[.agg #[.int .u8 5, .int .i64 0, .string ⟨#[]⟩, .slice none 0 0, .slice AO ov.length cO], .int .i64 u]) (by simp [results, Tryd.results30, go_sem, y0, y1, y2, y3, y4]) rfl ?_
              exact HP.out.done hd hu1 HU.out hk3 (Below.refl _ _) _ _ _ _ _
            · clear hgo
              go_wp2
              refine bodyPost_ret (v := .tuple #[.agg #[.int .u8 5, .int .i64 0, .string ⟨#[]⟩, .slice none 0 0, .slice AO ov.length cO], .int .i64 u]) (by simp [results, Tryd.results30, go_sem, y0, y1, y2, y3, y4]) rfl ?_
              exact HP.out.done hd hu1 HU.out hk3 (Below.refl _ _) _ _ _ _ _
end Go.Proofs.YtmmjkhkcffgeiaaDoor
