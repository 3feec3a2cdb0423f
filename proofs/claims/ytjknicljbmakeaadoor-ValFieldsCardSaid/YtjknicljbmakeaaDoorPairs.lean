/- The iterator over all that is at the same places of two values: it hands each pair that lies ahead to yield, then lays by what is in both. -/
import Derived.Test.YtjknicljbmakeaaDoorItems
import Derived.Test.YtjknicljbmakeaaDoorStep
import Derived.Deep.RegionLaw
import Derived.Deep.QuietTactic
import Derived.BigQuiet
import Derived.BigRegion
import Derived.Shelf.Abstract
import Derived.Shelf.RegionOpen
import Derived.WalkKit
import Derived.OwnWalkIn
import Derived.TacticsInMore
import Derived.LoopNIn
import Derived.LoopIn
import Derived.Sort.LoopGhostIn
import Derived.StillTailTactics
import Derived.Lib.Hide
import Derived.IntWalk
namespace Go.Proofs.YtjknicljbmakeaaDoor
open Go Go.RowKit Go.Shelf

attribute [local go_sem] Oper.semAt_some

theorem infoCouple : (Tryd.prog.info? 94).map (fun i => (i.zero, i.size, i.bytes)) = some (some (.agg #[.pointer none, .pointer none]), 2, 16) := by kernel_rfl

abbrev Due2 := Pair × List Pair × List (Nat × Array Value)
abbrev Due2.encs (x : Due2) : Array Value := #[.pointer (some ⟨x.1.1.b, x.1.1.off, none⟩), .pointer (some ⟨x.1.2.b, x.1.2.off, none⟩)]
def Due2.Pre (J : List Pair → World → Prop) (x : Due2) (W : World) : Prop := J (x.2.1 ++ [x.1]) W ∧ Owned 94 x.2.2 W
def Due2.Post (J : List Pair → World → Prop) (x : Due2) (W : World) : Prop :=
  Owned 94 x.2.2 W ∧ ∃ lb lo ob oo lb' lo' ob' oo', KidsAt W x.1.1 94 lb lo ob oo ∧ KidsAt W x.1.2 94 lb' lo' ob' oo' ∧ J (x.2.1 ++ kids2 x.1 lb lo ob oo lb' lo' ob' oo') W

structure AllInv2 (B M : Nat) (J : List Pair → World → Prop) (W0 : World) (base : Nat) (S : List Pair) (v : Value) (W : World) : Prop where
  row : W.ownsRow base 94 2 v S.length (pcellsOf S)
  inv : J S W
  keep : KeepsFrom B W0 W
  size : base ≤ W.heap.size
  small : ∀ x ∈ S, x.1.g.size ≤ M ∧ x.2.g.size ≤ M
  sum : psum S ≤ M

def AllRel2 (B M : Nat) (J : List Pair → World → Prop) (W0 : World) (base : Nat) (m : Nat) (v : Value) (W : World) : Prop := ∃ S, psum S = m ∧ AllInv2 B M J W0 base S v W

/-- Between the rounds of the loops that lay by what is in both. -/
structure PushInv2 (W3 : World) (base ab : Nat) (bc : Array Value) (rest its : List Pair) (k : Nat) (v : Value) (W : World) : Prop where
  row : W.ownsRow base 94 2 v (rest.length + k) (pcellsOf (rest ++ its.take k))
  but : But 94 base W3 W
  box : Whole W ab 94 bc
  ne : v.ownBlock ≠ some ab
def PushRel2 (W3 : World) (base ab : Nat) (bc : Array Value) (rest its : List Pair) (n : Nat) (v i : Value) (W : World) : Prop :=
  ∃ k : Nat, i = .int .i64 k ∧ k ≤ n ∧ PushInv2 W3 base ab bc rest its k v W

theorem PushInv2.push {W3 wr W4 : World} {base ab k : Nat} {bc : Array Value} {rest its : List Pair} {v v' : Value} (h : PushInv2 W3 base ab bc rest its k v wr) (o : Obj) (y : Pair) (hy : its.take (k + 1) = its.take k ++ [y])
    (hown : W4.ownsRow base 94 2 v' (rest.length + k + 1) (pcellsOf (rest ++ its.take k) ++ pcells y)) (hg' : (wr.alloc o).drew.grownBy W4 v.ownBlock) (hat : v'.ownBlock = v.ownBlock ∨ v'.ownBlock = some (wr.alloc o).drew.heap.size) :
    PushInv2 W3 base ab bc rest its (k + 1) v' W4 := by
  have hg : (wr.alloc o).grownBy W4 v.ownBlock := ⟨hg'.os, hg'.tape, hg'.output, hg'.size, hg'.block⟩
  refine ⟨?_, (h.but.alloc o).grown (h.row.alloc o) hg, (h.box.alloc o).grown hg (fun e => h.ne e.symm), ?_⟩
  · rw [hy, ← List.append_assoc, pcellsOf_append]
    simpa [pcellsOf, Nat.add_assoc] using hown
  · rcases hat with e | e
    · rw [e]; exact h.ne
    · rw [e]; intro e'; have := h.box.lt; have e2 : (wr.alloc o).heap.size = ab := Option.some.inj e'; simp at e2; omega

/-- The first lists have been laid by: on to the second. -/
theorem PushInv2.second {W3 wr : World} {base ab : Nat} {bc : Array Value} {rest its its2 : List Pair} {k : Nat} {v : Value} (h : PushInv2 W3 base ab bc rest its k v wr) (hk : k = its.length) : PushInv2 W3 base ab bc (rest ++ its) its2 0 v wr := by
  subst hk
  refine ⟨?_, h.but, h.box, h.ne⟩
  have := h.row
  rw [List.take_length] at this
  simpa using this

theorem Whole.drewN' {W : World} {b : Nat} {t : TypeId} {cs : Array Value} (h : Whole W b t cs) (n : Nat) : Whole (W.drewN n) b t cs := h
theorem _root_.Go.World.ownsRow.drewN' {W : World} {base : Nat} {e : TypeId} {size n : Nat} {v : Value} {xs : List Value} (h : W.ownsRow base e size v n xs) (k : Nat) : (W.drewN k).ownsRow base e size v n xs := h
theorem But.drewN' {e : TypeId} {base : Nat} {A B : World} (h : But e base A B) (n : Nat) : But e base A (B.drewN n) := ⟨h.os, h.tape, h.output, h.size, h.same⟩

theorem zip_len {b step b' step' off off' : Nat} {l l' : List GV} : ((itemsAt 0 b step off l).zip (itemsAt 0 b' step' off' l')).length = min l.length l'.length := by
  rw [List.length_zip, itemsAt_length, itemsAt_length]
theorem mem_zip_items {b step b' step' off off' : Nat} {l l' : List GV} {x : Pair} (h : x ∈ (itemsAt 0 b step off l).zip (itemsAt 0 b' step' off' l')) : x.1.g.size ≤ GV.sizes l ∧ x.2.g.size ≤ GV.sizes l' := by
  have := List.of_mem_zip (a := x.1) (b := x.2) h
  exact ⟨(mem_items this.1).2, (mem_items this.2).2⟩

/-- A round of the great loop has come to its end. -/
theorem AllInv2.next {B M base : Nat} {J : List Pair → World → Prop} (hJ : ∀ S X Y, J S X → But 94 base X Y → J S Y) {W0 wo W3 W5 : World} {rest : List Pair} {x : Pair} {v vo : Value} {lb lo ob oo lb' lo' ob' oo' ab k : Nat} {bc : Array Value}
    (h : AllInv2 B M J W0 base (rest ++ [x]) vo wo) (hJ3 : J (rest ++ kids2 x lb lo ob oo lb' lo' ob' oo') W3) (hk3 : KeepsFrom B wo W3)
    (hp : PushInv2 W3 base ab bc (rest ++ (itemsAt 0 lb 5 lo x.1.g.items).zip (itemsAt 0 lb' 5 lo' x.2.g.items)) ((itemsAt 0 ob 6 (oo + 1) x.1.g.vals).zip (itemsAt 0 ob' 6 (oo' + 1) x.2.g.vals)) k v W5) (hk : k = min x.1.g.vals.length x.2.g.vals.length) :
    AllInv2 B M J W0 base (rest ++ kids2 x lb lo ob oo lb' lo' ob' oo') v W5 ∧ psum (rest ++ kids2 x lb lo ob oo lb' lo' ob' oo') < psum (rest ++ [x]) := by
  have hs := psum_kids2 x lb lo ob oo lb' lo' ob' oo'
  have hx : psum (rest ++ [x]) = psum rest + x.1.g.size := by rw [psum_append]; simp [psum]
  have hsum := h.sum
  have hsm := h.small x (by simp)
  refine ⟨⟨?_, hJ _ _ _ hJ3 hp.but, (h.keep.trans hk3).trans (hp.but.others B), ?_, ?_, ?_⟩, ?_⟩
  · have := hp.row
    rw [hk, List.take_of_length_le (by rw [zip_len]; exact Nat.le_refl _), List.append_assoc] at this
    have e : (rest ++ kids2 x lb lo ob oo lb' lo' ob' oo').length = (rest ++ (itemsAt 0 lb 5 lo x.1.g.items).zip (itemsAt 0 lb' 5 lo' x.2.g.items)).length + min x.1.g.vals.length x.2.g.vals.length := by
      unfold kids2; rw [List.length_append, List.length_append, zip_len, zip_len, List.length_append, zip_len]; omega
    rw [e]
    exact this
  · have h1 := h.size; have h2 := hk3.size; have h3 := hp.but.size; omega
  · intro y hy
    rcases List.mem_append.1 hy with hy | hy
    · exact h.small y (by simp [hy])
    · have hz := size_eq x.1.g
      have hz' := size_eq x.2.g
      unfold kids2 at hy
      rcases List.mem_append.1 hy with hy | hy
      · have := mem_zip_items hy; omega
      · have := mem_zip_items hy; omega
  · rw [psum_append]; omega
  · rw [psum_append]; omega

set_option maxRecDepth 100000 in
set_option maxHeartbeats 8000000 in
theorem pairs1_dues (n : Nat) (hn : 1 ≤ n) (B M : Nat) (hM : M ≤ 1000000000) (W0 : World) (J : List Pair → World → Prop) (hJ : ∀ S X Y, J S X → But 94 W0.heap.size X Y → J S Y)
    (Ba Bb : Nat) (x0 : Pair) (l : Nat) (h0 : J [x0] W0) (hd0 : x0.1.g.size ≤ M ∧ x0.2.g.size ≤ M) (hBa : W0.cell? ⟨Ba, 0, none⟩ = some (.pointer (some ⟨x0.1.b, x0.1.off, none⟩))) (hBb : W0.cell? ⟨Bb, 0, none⟩ = some (.pointer (some ⟨x0.2.b, x0.2.off, none⟩))) :
    Dues Fence.wide n Tryd.prog 59 #[.pointer (some ⟨Ba, 0, none⟩), .pointer (some ⟨Bb, 0, none⟩)] Due2.encs B (Due2.Pre J) (Due2.Post J) (J []) l W0 := by
  intro Jx hY
  refine callsIn_of_wp Tryd.func59 rfl trivial ?_ rfl
  simp only [Tryd.ntmps59, List.size_toArray, List.length_cons, List.length_nil, Nat.reduceAdd, Nat.reduceSub, Array.replicate_succ, Array.replicate_zero, List.push_toArray, List.append_toArray, List.nil_append, List.cons_append]
  gi_wp2
  gi_loopg [4] (psum [x0]) (AllRel2 B M J W0 W0.heap.size)
  case atStart =>
    refine ⟨[x0], rfl, ⟨?_, hJ _ _ _ h0 ((But.refl _ _ _).alloc _), ((But.refl 94 W0.heap.size W0).alloc _).others B, by simp, fun x hx => by simp at hx; subst hx; exact hd0, by simp [psum]; omega⟩⟩
    refine ⟨by simp [pcellsOf, pcells], .inr ⟨W0.heap.size, 1, _, rfl, Nat.le_refl _, heap_alloc_new W0 _, Nat.le_refl _, by decide, rfl, ?_⟩⟩
    simp [pcellsOf, pcells]
  case round =>
    obtain ⟨S, hS, hinv⟩ := hrel
    rcases List.eq_nil_or_concat S with rfl | ⟨rest, x, rfl⟩
    · obtain ⟨A, c, rfl⟩ := own_form hinv.row
      simp only [List.length_nil]
      have H := Lib.hid hinv
      clear hinv hS
      gi_wp2
      go_end0
      exact ⟨⟨_, rfl⟩, .inl ⟨H.out.keep, H.out.inv⟩⟩
    · rw [List.concat_eq_append] at hinv hS
      obtain ⟨wo, rfl⟩ : ∃ wo : World, wo = wr := ⟨_, rfl⟩
      obtain ⟨t, c, cur, hv, hc1, hc2, hbt, hwt, hcell⟩ := own_at hinv.row (by simp)
      subst hv
      have hcd := hcell (rest.length * 2) (.pointer (some ⟨x.1.b, x.1.off, none⟩)) (by rw [pcellsOf_append, List.getElem?_append_right (by rw [pcellsOf_length]; omega), pcellsOf_length]; simp [pcellsOf, pcells])
      have hcp := hcell (rest.length * 2 + 1) (.pointer (some ⟨x.2.b, x.2.off, none⟩)) (by rw [pcellsOf_append, List.getElem?_append_right (by rw [pcellsOf_length]; omega), pcellsOf_length]; simp [pcellsOf, pcells])
      have hrow := own_front hinv.row rest.length (by simp) (by simp)
      rw [pcellsOf_append, ← pcellsOf_length, List.take_left] at hrow
      have hlen : (rest ++ [x]).length = rest.length + 1 := by simp
      simp only [hlen] at hc1 hrow ⊢
      have hbd := hinv.small x (by simp)
      have hln : rest.length ≤ M := by have := len_psum (rest ++ [x]); have := hinv.sum; rw [hlen] at *; omega
      unfold maxLen at hc2
      have H := Lib.hid hinv
      have HR := Lib.hid hrow
      have HS := Lib.hid hS
      have HW := Lib.hid hwt
      have HBD := Lib.hid hbd
      clear hinv hrow hcell hS hlen hwt hbd
      generalize hN : rest.length = N at *
      have HN := Lib.hid hN
      clear hN
      have H2 : But 94 W0.heap.size wo (wo.alloc (.cells #[.pointer (some ⟨x.1.b, x.1.off, none⟩), .pointer (some ⟨x.2.b, x.2.off, none⟩)] 94)) := (But.refl _ _ _).alloc _
      obtain ⟨fn, tmps, assign, body, hy, hR⟩ := hY (x, rest, [(t, cur), (wo.heap.size, #[.pointer (some ⟨x.1.b, x.1.off, none⟩), .pointer (some ⟨x.2.b, x.2.off, none⟩)])]) (wo.alloc (.cells #[.pointer (some ⟨x.1.b, x.1.off, none⟩), .pointer (some ⟨x.2.b, x.2.off, none⟩)] 94))
        ⟨hJ _ _ _ H.out.inv H2, fun p hp => by
          simp only [List.mem_cons, List.not_mem_nil, or_false] at hp
          rcases hp with rfl | rfl
          · exact HW.out.alloc _
          · exact Whole.new wo _ _⟩ (H.out.keep.trans (H2.others B))
      have HB := Lib.hid H2
      clear H2
      dsimp only [Due2.encs] at hy
      gi_wp2
      refine hR.mono ?_
      clear hR hy
      rintro e W3 (⟨rfl, hk3, hown3, lb, lo, ob, oo, lb', lo', ob', oo', hkids, hkids', hJ3⟩ | ⟨rfl, hx3⟩)
      · have hat := hown3 _ (List.mem_cons_of_mem _ (List.mem_cons_self ..))
        have htd := hown3 _ (List.mem_cons_self ..)
        have hrow3 : W3.ownsRow W0.heap.size 94 2 (.slice (some ⟨t, 0, none⟩) N c) (rest.length + 0) (pcellsOf (rest ++ ((itemsAt 0 lb 5 lo x.1.g.items).zip (itemsAt 0 lb' 5 lo' x.2.g.items)).take 0)) := by
          simp only [List.take_zero, List.append_nil, Nat.add_zero, HN.out]
          exact own_same HR.out (fun k hk => by cases hk; exact (show W3.heap[t]? = _ from htd).trans (show wo.heap[t]? = _ from HW.out).symm)
        have hA0 : W3.cell? ⟨wo.heap.size, 0, none⟩ = some (.pointer (some ⟨x.1.b, x.1.off, none⟩)) := (hat.cell 0).trans rfl
        have hA1 : W3.cell? ⟨wo.heap.size, 1, none⟩ = some (.pointer (some ⟨x.2.b, x.2.off, none⟩)) := (hat.cell 1).trans rfl
        obtain ⟨AL, cL, hL3, hL3'⟩ := hkids.lst
        obtain ⟨AL', cL', hL4, hL4'⟩ := hkids'.lst
        have HAt := Lib.hid hat
        have HRow3 := Lib.hid hrow3
        have HK := Lib.hid (And.intro hkids hkids')
        have HJ3 := Lib.hid hJ3
        have HK3 := Lib.hid hk3
        clear hat htd hrow3 hkids hkids' hJ3 hk3 hown3 hL3' hL4'
        have hlen1 : x.1.g.items.length ≤ M := by have := len_sizes x.1.g.items; have := size_eq x.1.g; have := HBD.out; omega
        have hlen2 : x.2.g.items.length ≤ M := by have := len_sizes x.2.g.items; have := size_eq x.2.g; have := HBD.out; omega
        gi_wp2
        refine wpIn_wide.2 ?_
        go_quiet (fail)
        have emin : (if x.2.g.items.length < x.1.g.items.length then (x.2.g.items.length : Int) else (x.1.g.items.length : Int)) = ((min x.1.g.items.length x.2.g.items.length : Nat) : Int) := by split <;> omega
        rw [emin]
        clear emin
        have hm1 : min x.1.g.items.length x.2.g.items.length ≤ x.1.g.items.length := Nat.min_le_left _ _
        have hm2 : min x.1.g.items.length x.2.g.items.length ≤ x.2.g.items.length := Nat.min_le_right _ _
        have HMin : Hid (min x.1.g.items.length x.2.g.items.length = min x.1.g.items.length x.2.g.items.length) := rfl
        revert HMin
        generalize hmm : min x.1.g.items.length x.2.g.items.length = m at *
        intro _
        have HM := Lib.hid hmm
        clear hmm
        gi_wp2
        gi_loopw [4, 46] (PushRel2 W3 W0.heap.size wo.heap.size #[.pointer (some ⟨x.1.b, x.1.off, none⟩), .pointer (some ⟨x.2.b, x.2.off, none⟩)] rest ((itemsAt 0 lb 5 lo x.1.g.items).zip (itemsAt 0 lb' 5 lo' x.2.g.items)) m) (fun _ i _ => m - (intOf i).toNat)
        case atStart => exact ⟨0, rfl, Nat.zero_le _, HRow3.out.drewN' nq, (But.refl _ _ _).drewN' nq, HAt.out.drewN' nq, by have := HW.out.lt; simp [Value.ownBlock]; omega⟩
        case round =>
          obtain ⟨k, rfl, hk, hp⟩ := hrel
          have hB0 : wr.cell? ⟨wo.heap.size, 0, none⟩ = some (.pointer (some ⟨x.1.b, x.1.off, none⟩)) := (hp.box.cell 0).trans rfl
          have hB1 : wr.cell? ⟨wo.heap.size, 1, none⟩ = some (.pointer (some ⟨x.2.b, x.2.off, none⟩)) := (hp.box.cell 1).trans rfl
          have hkids := hp.but.kids HK.out.1
          have hkids' := hp.but.kids HK.out.2
          by_cases hlt : k < m
          · have hka : k < x.1.g.items.length := by omega
            have hkb : k < x.2.g.items.length := by omega
            have hne : x.1.g.items ≠ [] := fun e => by rw [e] at hka; simp at hka
            have hne' : x.2.g.items ≠ [] := fun e => by rw [e] at hkb; simp at hkb
            obtain ⟨A1, c1, hL5, hL5'⟩ := hkids.lst
            obtain rfl := hL5' hne
            obtain ⟨A1', c1', hL6, hL6'⟩ := hkids'.lst
            obtain rfl := hL6' hne'
            obtain ⟨A2, c2, rfl⟩ := own_form hp.row
            have HP := Lib.hid hp
            have hNk : rest.length + k ≤ 2 * M := by have := HN.out; omega
            have b1 : rest.length + k + 1 ≤ maxLen := by unfold maxLen; omega
            have b2 : (rest.length + k + 1) * 16 ≤ 140737488355328 := by omega
            have HB12 := Lib.hid (And.intro b1 b2)
            have hbs : W0.heap.size ≤ wr.heap.size := by have h1 := H.out.size; have h2 := HK3.out.size; have h3 := hp.but.size; simp at h2; omega
            have HAl : ∀ o, wr.heap.size ≤ (wr.alloc o).heap.size := fun o => by simp
            have HZT := Lib.hid (zip_take (b := lb) (step := 5) (b' := lb') (step' := 5) (off := lo) (off' := lo') hka hkb)
            clear hp hkids hkids' hL5' hL6' hne hne' b1 b2 hNk
            obtain ⟨i0, hi0, hz0, hz1, hz2⟩ := info_parts infoCouple
            have HI0 := Lib.hid hi0
            have HZ0 := Lib.hid (And.intro hz0 (And.intro hz1 hz2))
            clear hi0 hz0 hz1 hz2
            gi_wp2
            refine wpIn_wide.2 ?_
            go_region_law (refine step_append_mine rfl (.tmp 49) (.tmp 65) 95 rfl W0.heap.size 94 i0 _ 2 16 Tryd.underlying95 HI0.out HZ0.out.1 HZ0.out.2.1 HZ0.out.2.2 rfl (by decide) (.slice A2 (rest.length + k) c2) (rest.length + k) _ (by simp [Act.eval]) ((HP.out.row.alloc _).drew) ⟨wr.heap.size, 0, none⟩ 1 1 [.pointer (some ⟨lb, lo + k * 5, none⟩), .pointer (some ⟨lb', lo' + k * 5, none⟩)] (by simp [Act.eval]) rfl (fun j u hj => row_cells' wr wr.heap.size rfl [.pointer (some ⟨lb, lo + k * 5, none⟩), .pointer (some ⟨lb', lo' + k * 5, none⟩)] 94 j u hj) (by simp [Value.oneCell']) HB12.out.1 HB12.out.2 (Nat.le_trans hbs (HAl _)) ?_; intro v4 W4 hown4 hg4 hat4; obtain ⟨A4, c4, rfl⟩ := own_form hown4; have H4 := Lib.hid (And.intro hown4 (And.intro hg4 hat4)); clear hown4 hg4 hat4)
            all_goals
              gi_wp2
              go_roundw
              case rel => exact ⟨k + 1, by go_num, by omega, HP.out.push _ _ HZT.out H4.out.1 H4.out.2.1 H4.out.2.2⟩
              case measure => simp [intOf]; omega
          · have hkl : k = ((itemsAt 0 lb 5 lo x.1.g.items).zip (itemsAt 0 lb' 5 lo' x.2.g.items)).length := by rw [zip_len, HM.out]; omega
            have HP := Lib.hid (hp.second (its2 := (itemsAt 0 ob 6 (oo + 1) x.1.g.vals).zip (itemsAt 0 ob' 6 (oo' + 1) x.2.g.vals)) hkl)
            obtain ⟨AO, cO, hO3, hO3'⟩ := hkids.obj
            obtain ⟨AO', cO', hO4, hO4'⟩ := hkids'.obj
            have hlen3 : x.1.g.vals.length ≤ M := by have := len_sizes x.1.g.vals; have := size_eq x.1.g; have := HBD.out; omega
            have hlen4 : x.2.g.vals.length ≤ M := by have := len_sizes x.2.g.vals; have := size_eq x.2.g; have := HBD.out; omega
            clear hp hkids hkids' hkl hO3' hO4'
            gi_wp2
            refine wpIn_wide.2 ?_
            go_quiet (fail)
            have emin : (if x.2.g.vals.length < x.1.g.vals.length then (x.2.g.vals.length : Int) else (x.1.g.vals.length : Int)) = ((min x.1.g.vals.length x.2.g.vals.length : Nat) : Int) := by split <;> omega
            rw [emin]
            clear emin
            have hn1 : min x.1.g.vals.length x.2.g.vals.length ≤ x.1.g.vals.length := Nat.min_le_left _ _
            have hn2 : min x.1.g.vals.length x.2.g.vals.length ≤ x.2.g.vals.length := Nat.min_le_right _ _
            generalize hmm2 : min x.1.g.vals.length x.2.g.vals.length = m2 at *
            have HM2 := Lib.hid hmm2
            clear hmm2
            obtain ⟨wp, rfl⟩ : ∃ wp : World, wp = wr := ⟨_, rfl⟩
            gi_wp2
            rename_i nq2 _
            gi_loopw [4, 81] (PushRel2 W3 W0.heap.size wo.heap.size #[.pointer (some ⟨x.1.b, x.1.off, none⟩), .pointer (some ⟨x.2.b, x.2.off, none⟩)] (rest ++ (itemsAt 0 lb 5 lo x.1.g.items).zip (itemsAt 0 lb' 5 lo' x.2.g.items)) ((itemsAt 0 ob 6 (oo + 1) x.1.g.vals).zip (itemsAt 0 ob' 6 (oo' + 1) x.2.g.vals)) m2) (fun _ i _ => m2 - (intOf i).toNat)
            case atStart => exact ⟨0, rfl, Nat.zero_le _, HP.out.row.drewN' _, HP.out.but.drewN' _, HP.out.box.drewN' _, HP.out.ne⟩
            case round =>
              obtain ⟨k2, rfl, hk2, hp⟩ := hrel
              have hC0 : wr.cell? ⟨wo.heap.size, 0, none⟩ = some (.pointer (some ⟨x.1.b, x.1.off, none⟩)) := (hp.box.cell 0).trans rfl
              have hC1 : wr.cell? ⟨wo.heap.size, 1, none⟩ = some (.pointer (some ⟨x.2.b, x.2.off, none⟩)) := (hp.box.cell 1).trans rfl
              have hkids := hp.but.kids HK.out.1
              have hkids' := hp.but.kids HK.out.2
              by_cases hlt : k2 < m2
              · have hka : k2 < x.1.g.vals.length := by omega
                have hkb : k2 < x.2.g.vals.length := by omega
                have hne : x.1.g.vals ≠ [] := fun e => by rw [e] at hka; simp at hka
                have hne' : x.2.g.vals ≠ [] := fun e => by rw [e] at hkb; simp at hkb
                obtain ⟨A1, c1, hL5, hL5'⟩ := hkids.obj
                obtain rfl := hL5' hne
                obtain ⟨A1', c1', hL6, hL6'⟩ := hkids'.obj
                obtain rfl := hL6' hne'
                obtain ⟨A2, c2, rfl⟩ := own_form hp.row
                have HP2 := Lib.hid hp
                have hNk : (rest ++ (itemsAt 0 lb 5 lo x.1.g.items).zip (itemsAt 0 lb' 5 lo' x.2.g.items)).length + k2 ≤ 3 * M := by have := HN.out; have := HM.out; rw [List.length_append, zip_len]; omega
                have b1 : (rest ++ (itemsAt 0 lb 5 lo x.1.g.items).zip (itemsAt 0 lb' 5 lo' x.2.g.items)).length + k2 + 1 ≤ maxLen := by unfold maxLen; omega
                have b2 : ((rest ++ (itemsAt 0 lb 5 lo x.1.g.items).zip (itemsAt 0 lb' 5 lo' x.2.g.items)).length + k2 + 1) * 16 ≤ 140737488355328 := by omega
                have HB12 := Lib.hid (And.intro b1 b2)
                have hbs : W0.heap.size ≤ wr.heap.size := by have h1 := H.out.size; have h2 := HK3.out.size; have h3 := hp.but.size; simp at h2; omega
                have HAl : ∀ o, wr.heap.size ≤ (wr.alloc o).heap.size := fun o => by simp
                have HZT : Hid (((itemsAt 0 ob 6 (oo + 1) x.1.g.vals).zip (itemsAt 0 ob' 6 (oo' + 1) x.2.g.vals)).take (k2 + 1) = ((itemsAt 0 ob 6 (oo + 1) x.1.g.vals).zip (itemsAt 0 ob' 6 (oo' + 1) x.2.g.vals)).take k2 ++ [(⟨0, ob, oo + k2 * 6 + 1, x.1.g.vals[k2]⟩, ⟨0, ob', oo' + k2 * 6 + 1, x.2.g.vals[k2]⟩)]) := by
                  rw [zip_take hka hkb, show oo + 1 + k2 * 6 = oo + k2 * 6 + 1 by omega, show oo' + 1 + k2 * 6 = oo' + k2 * 6 + 1 by omega]; rfl
                clear hp hkids hkids' hL5' hL6' hne hne' b1 b2 hNk
                generalize (rest ++ (itemsAt 0 lb 5 lo x.1.g.items).zip (itemsAt 0 lb' 5 lo' x.2.g.items)) = R2 at *
                obtain ⟨i0, hi0, hz0, hz1, hz2⟩ := info_parts infoCouple
                have HI0 := Lib.hid hi0
                have HZ0 := Lib.hid (And.intro hz0 (And.intro hz1 hz2))
                clear hi0 hz0 hz1 hz2
                gi_wp2
                refine wpIn_wide.2 ?_
                go_region_law (refine step_append_mine rfl (.tmp 84) (.tmp 102) 95 rfl W0.heap.size 94 i0 _ 2 16 Tryd.underlying95 HI0.out HZ0.out.1 HZ0.out.2.1 HZ0.out.2.2 rfl (by decide) (.slice A2 (R2.length + k2) c2) (R2.length + k2) _ (by simp [Act.eval]) ((HP2.out.row.alloc _).drew) ⟨wr.heap.size, 0, none⟩ 1 1 [.pointer (some ⟨ob, oo + k2 * 6 + 1, none⟩), .pointer (some ⟨ob', oo' + k2 * 6 + 1, none⟩)] (by simp [Act.eval]) rfl (fun j u hj => row_cells' wr wr.heap.size rfl [.pointer (some ⟨ob, oo + k2 * 6 + 1, none⟩), .pointer (some ⟨ob', oo' + k2 * 6 + 1, none⟩)] 94 j u hj) (by simp [Value.oneCell']) HB12.out.1 HB12.out.2 (Nat.le_trans hbs (HAl _)) ?_; intro v4 W4 hown4 hg4 hat4; obtain ⟨A4, c4, rfl⟩ := own_form hown4; have H4 := Lib.hid (And.intro hown4 (And.intro hg4 hat4)); clear hown4 hg4 hat4)
                all_goals
                  gi_wp2
                  go_roundw
                  case rel => exact ⟨k2 + 1, by go_num, by omega, HP2.out.push _ _ HZT.out H4.out.1 H4.out.2.1 H4.out.2.2⟩
                  case measure => simp [intOf]; omega
              · have hkl : k2 = min x.1.g.vals.length x.2.g.vals.length := by have := HM2.out; omega
                have HE := Lib.hid (H.out.next hJ HJ3.out ((HB.out.others B).trans HK3.out) hp hkl)
                clear hp hkids hkids' hkl
                gi_wp2
                gi_roundg (psum (rest ++ kids2 x lb lo ob oo lb' lo' ob' oo'))
                case measure => rw [← HS.out]; exact HE.out.2
                case rel => exact ⟨_, rfl, HE.out.1⟩
      · gi_wp2
        refine bodyPost_ret (results_none rfl _ _ _) rfl ?_
        exact ⟨⟨_, rfl⟩, .inr hx3⟩
end Go.Proofs.YtjknicljbmakeaaDoor
