/- Same, the program's. -/
import Derived.Test.YtjknicljbmakeaaDoorSound
import Derived.Test.YtjknicljbmakeaaDoorPairs
import Derived.Test.YtjknicljbmakeaaDoorSameI
namespace Go.Proofs.YtjknicljbmakeaaDoor
open Go Go.RowKit Go.Shelf
attribute [local go_sem] Oper.semAt_some

mutual
/-- Two values are the same. -/
def GV.Same : GV → GV → Prop
  | .mk k n s l ks ov, h => SameSelf (.mk k n s l ks ov) h ∧ GV.Sames l h.items ∧ GV.Sames ov h.vals
def GV.Sames : List GV → List GV → Prop
  | [], _ => True
  | _ :: _, [] => True
  | g :: r, h :: q => GV.Same g h ∧ GV.Sames r q
end
theorem same_eq (g h : GV) : g.Same h ↔ SameSelf g h ∧ GV.Sames g.items h.items ∧ GV.Sames g.vals h.vals := by
  cases g with | mk k n s l ks ov => simp only [GV.Same, GV.items, GV.vals]
theorem sames_zip {b step b' step' : Nat} : ∀ {off off' : Nat} {l l' : List GV}, (∀ x ∈ (itemsAt 0 b step off l).zip (itemsAt 0 b' step' off' l'), x.1.g.Same x.2.g) ↔ GV.Sames l l'
  | _, _, [], _ => by simp [itemsAt, GV.Sames]
  | _, _, _ :: _, [] => by simp [itemsAt, GV.Sames]
  | off, off', g :: r, h :: q => by
    have := sames_zip (b := b) (step := step) (b' := b') (step' := step') (off := off + step) (off' := off' + step') (l := r) (l' := q)
    simp only [itemsAt, List.zip_cons_cons, List.mem_cons, GV.Sames, ← this]
    exact ⟨fun h => ⟨h _ (.inl rfl), fun x hx => h x (.inr hx)⟩, fun h x hx => hx.elim (fun e => by rw [e]; exact h.1) (h.2 x)⟩
theorem same_kids (x : Pair) (lb lo ob oo lb' lo' ob' oo' : Nat) : x.1.g.Same x.2.g ↔ SameSelf x.1.g x.2.g ∧ ∀ y ∈ kids2 x lb lo ob oo lb' lo' ob' oo', y.1.g.Same y.2.g := by
  rw [same_eq, ← sames_zip (b := lb) (step := 5) (b' := lb') (step' := 5) (off := lo) (off' := lo'), ← sames_zip (b := ob) (step := 6) (b' := ob') (step' := 6) (off := oo + 1) (off' := oo' + 1)]
  unfold kids2
  simp only [List.mem_append]
  exact ⟨fun h => ⟨h.1, fun y hy => hy.elim (h.2.1 y) (h.2.2 y)⟩, fun h => ⟨h.1, fun y hy => h.2 y (.inl hy), fun y hy => h.2 y (.inr hy)⟩⟩

/-- What lies ahead of both lies where it lay. -/
structure Ahead2 (n0 : Nat) (w0 : World) (S : List Pair) : Prop where
  one : ∀ x ∈ S, Ahead n0 w0 [x.1]
  two : ∀ x ∈ S, Ahead n0 w0 [x.2]
theorem Ahead.mem {n0 : Nat} {w0 : World} {S : List Item} (h : Ahead n0 w0 S) {x : Item} (hx : x ∈ S) : Ahead n0 w0 [x] := ⟨fun y hy => by simp at hy; subst hy; exact h.ats y hx⟩
theorem Ahead.one {n0 : Nat} {w0 W : World} {x : Item} (h : Ahead n0 w0 [x]) (hb : Below n0 w0 W) :
    ∃ AL cL AO cO lb lo ob oo, ValAt W x.b x.off x.g AL AO cL cO ∧ ObjV (fun k => k < n0) w0 (.slice AO x.g.vals.length cO) x.g.keys x.g.vals ∧
      (∀ W', Below n0 w0 W' → KidsAt W' x 94 lb lo ob oo) ∧ Ahead n0 w0 (itemsAt 0 lb 5 lo x.g.items) ∧ Ahead n0 w0 (itemsAt 0 ob 6 (oo + 1) x.g.vals) := by
  obtain ⟨hlt, ⟨e, cs, he, he', hw⟩, hat⟩ := h.ats x (by simp)
  obtain ⟨L, O, h0, h1, h2, h3, h4, hL, hO⟩ := GV.at_iff.1 hat
  obtain ⟨AL, cL, lb, lo, rfl, hl, hal⟩ := hL.kids 0
  obtain ⟨AO, cO, ob, oo, rfl, ho, hao⟩ := hO.kids 0
  have c : ∀ {W' : World} (_ : Below n0 w0 W') (j : Nat), W'.cell? ⟨x.b, j, none⟩ = w0.cell? ⟨x.b, j, none⟩ := fun h j => h.cell (p := ⟨x.b, j, none⟩) hlt
  exact ⟨AL, cL, AO, cO, lb, lo, ob, oo, ⟨(c hb _).trans h0, (c hb _).trans h1, (c hb _).trans h2, (c hb _).trans h3, (c hb _).trans h4⟩, hO, fun W' hW' => ⟨⟨e, cs, he', hw.below hW' hlt⟩, ⟨AL, cL, (c hW' _).trans h3, hl⟩, ⟨AO, cO, (c hW' _).trans h4, ho⟩⟩, hal, hao⟩
theorem Ahead2.zip {n0 : Nat} {w0 : World} {a b : List Item} (ha : Ahead n0 w0 a) (hb : Ahead n0 w0 b) : Ahead2 n0 w0 (a.zip b) :=
  ⟨fun x hx => ha.mem (List.of_mem_zip (a := x.1) (b := x.2) hx).1, fun x hx => hb.mem (List.of_mem_zip (a := x.1) (b := x.2) hx).2⟩
theorem Ahead2.front {n0 : Nat} {w0 : World} {S T : List Pair} (h : Ahead2 n0 w0 (S ++ T)) : Ahead2 n0 w0 S := ⟨fun x hx => h.one x (List.mem_append.2 (.inl hx)), fun x hx => h.two x (List.mem_append.2 (.inl hx))⟩
theorem Ahead2.join {n0 : Nat} {w0 : World} {S T : List Pair} (h : Ahead2 n0 w0 S) (k : Ahead2 n0 w0 T) : Ahead2 n0 w0 (S ++ T) :=
  ⟨fun x hx => (List.mem_append.1 hx).elim (h.one x) (k.one x), fun x hx => (List.mem_append.1 hx).elim (h.two x) (k.two x)⟩

structure Reads2 (n0 : Nat) (w0 : World) (bm : Nat) (g h : GV) (S : List Pair) (W : World) : Prop where
  ahead : Ahead2 n0 w0 S
  below : Below n0 w0 W
  box : Whole W bm 4 #[.bool false]
  same : g.Same h ↔ ∀ x ∈ S, x.1.g.Same x.2.g
section
variable {n0 : Nat} {w0 : World} {bm : Nat} {g h : GV}
theorem Reads2.apart {B : Nat} (hB : n0 ≤ B) (S : List Pair) : Apart B (Reads2 n0 w0 bm g h S) := fun W l o o' hl hk ho _ q =>
  ⟨q.ahead, below_apart q.below (by omega) hk o', q.box.apart hk ho o', q.same⟩
theorem Reads2.but {base : Nat} (hn : n0 ≤ base) (hw : n0 ≤ w0.heap.size) (S : List Pair) (X Y : World) (q : Reads2 n0 w0 bm g h S X) (hb : But 94 base X Y) : Reads2 n0 w0 bm g h S Y :=
  ⟨q.ahead, q.below.trans (hb.below hn (by have := q.below.size; omega)), hb.whole q.box (by decide), q.same⟩
end
theorem pre2_apart {B : Nat} {J : List Pair → World → Prop} (hJ : ∀ S, Apart B (J S)) (x : Due2) : Apart B (Due2.Pre J x) :=
  fun W l o o' hB hl ho ho' h => ⟨hJ _ W l o o' hB hl ho ho' h.1, h.2.apart hl ho o'⟩
theorem post2_apart {B : Nat} {J : List Pair → World → Prop} (hJ : ∀ S, Apart B (J S)) (x : Due2) : Apart B (Due2.Post J x) := by
  rintro W l o o' hB hl ho ho' ⟨h, lb, lo, ob, oo, lb', lo', ob', oo', hk, hk', hj⟩
  exact ⟨h.apart hl ho o', lb, lo, ob, oo, lb', lo', ob', oo', hk.apart hl ho o', hk'.apart hl ho o', hJ _ W l o o' hB hl ho ho' hj⟩

theorem call_pairs (p q : Option Addr) (w : World) : Calls Tryd.prog 43 #[.pointer p, .pointer q] w fun e w' =>
    e = .returned (.func (.func 59) #[] #[.pointer (some ⟨w.heap.size, 0, none⟩), .pointer (some ⟨w.heap.size + 1, 0, none⟩)]) ∧ (w.alloc (.cells #[.pointer p] 62)).alloc (.cells #[.pointer q] 62) = w' := by
  go_enter Tryd.func43, Tryd.ntmps43
  go_wp2
  go_ret
  exact ⟨rfl, rfl⟩

theorem ahead2_start {ok : Nat → Prop} {w : World} {g h : GV} {L O L' O' : Value} (hL : LstV ok w L g.items) (hO : ObjV ok w O g.keys g.vals) (hL' : LstV ok w L' h.items) (hO' : ObjV ok w O' h.keys h.vals) :
    Ahead2 (w.heap.size + 1 + 1) ((w.alloc (.cells #[.int .u8 g.kind, .int .i64 g.num, .string g.str, L, O] 28)).alloc (.cells #[.int .u8 h.kind, .int .i64 h.num, .string h.str, L', O'] 28)) [(⟨0, w.heap.size, 0, g⟩, ⟨0, w.heap.size + 1, 0, h⟩)] := by
  obtain ⟨w0, hw0⟩ : ∃ w0, w0 = (w.alloc (.cells #[.int .u8 g.kind, .int .i64 g.num, .string g.str, L, O] 28)).alloc (.cells #[.int .u8 h.kind, .int .i64 h.num, .string h.str, L', O'] 28) := ⟨_, rfl⟩
  rw [← hw0]
  have hb : Below w.heap.size w w0 := by rw [hw0]; exact ((Below.refl _ _).alloc (Nat.le_refl _) _).alloc (by simp) _
  have hF : From ok w w0 := .of_below hb
  have h1 : Whole w0 w.heap.size 28 #[.int .u8 g.kind, .int .i64 g.num, .string g.str, L, O] := by rw [hw0]; exact (Whole.new _ _ _).alloc _
  have h2 : Whole w0 (w.heap.size + 1) 28 #[.int .u8 h.kind, .int .i64 h.num, .string h.str, L', O'] := by
    rw [hw0]
    have := Whole.new (w.alloc (.cells #[.int .u8 g.kind, .int .i64 g.num, .string g.str, L, O] 28)) 28 #[.int .u8 h.kind, .int .i64 h.num, .string h.str, L', O']
    rwa [World.size_alloc] at this
  refine ⟨fun x hx => ⟨fun y hy => ?_⟩, fun x hx => ⟨fun y hy => ?_⟩⟩
  · simp only [List.mem_singleton] at hx hy
    subst hx
    subst hy
    exact ⟨by simp; omega, ⟨_, _, by decide, by decide, h1⟩, GV.at_iff.2 ⟨L, O, (h1.cell 0).trans rfl, (h1.cell 1).trans rfl, (h1.cell 2).trans rfl, (h1.cell 3).trans rfl, (h1.cell 4).trans rfl, hL.keep hF (fun k _ hk => by omega), hO.keep hF (fun k _ hk => by omega)⟩⟩
  · simp only [List.mem_singleton] at hx hy
    subst hx
    subst hy
    exact ⟨by simp, ⟨_, _, by decide, by decide, h2⟩, GV.at_iff.2 ⟨L', O', (h2.cell 0).trans rfl, (h2.cell 1).trans rfl, (h2.cell 2).trans rfl, (h2.cell 3).trans rfl, (h2.cell 4).trans rfl, hL'.keep hF (fun k _ hk => by omega), hO'.keep hF (fun k _ hk => by omega)⟩⟩

set_option maxRecDepth 100000 in
set_option maxHeartbeats 4000000 in
theorem val_Same (ok : Nat → Prop) (v v' : Value) (g h : GV) (w : World) (hv : g.val ok w v) (hv' : h.val ok w v') (hg : g.size ≤ 1000000000) (hh : h.size ≤ 1000000000) :
    Calls Tryd.prog 27 #[v, v'] w (EqPost (g.Same h) w) := by
  obtain ⟨L, O, rfl, hL, hO⟩ := hv
  obtain ⟨AL, cL, rfl⟩ := lst_form hL
  obtain ⟨AO, cO, rfl⟩ := obj_form hO
  obtain ⟨L', O', rfl, hL', hO'⟩ := hv'
  obtain ⟨AL', cL', rfl⟩ := lst_form hL'
  obtain ⟨AO', cO', rfl⟩ := obj_form hO'
  refine (callsIn_wide (n := 9)).1 ?_
  refine callsIn_of_wp_marks Tryd.func27 rfl trivial ?_ rfl
  simp only [Tryd.ntmps27, List.size_toArray, List.length_cons, List.length_nil, Nat.reduceAdd, Nat.reduceSub, Array.replicate_succ, Array.replicate_zero, List.push_toArray, List.append_toArray, List.nil_append, List.cons_append]
  gi_wp2_with (refine ⟨trivial, ?_⟩; gi_at_call 43; refine (callsIn_wide.2 (call_pairs _ _ _)).mono ?_; rintro e w' ⟨rfl, rfl⟩)
  have hah := ahead2_start hL hO hL' hO'
  obtain ⟨w0, hw0e⟩ : ∃ w0, w0 = (w.alloc (.cells #[.int .u8 g.kind, .int .i64 g.num, .string g.str, .slice AL g.items.length cL, .slice AO g.vals.length cO] 28)).alloc (.cells #[.int .u8 h.kind, .int .i64 h.num, .string h.str, .slice AL' h.items.length cL', .slice AO' h.vals.length cO'] 28) := ⟨_, rfl⟩
  have hw0 : w0.heap.size = w.heap.size + 1 + 1 := by rw [hw0e]; simp
  have hB1 : Below w.heap.size w w0 := by rw [hw0e]; exact ((Below.refl _ _).alloc (Nat.le_refl _) _).alloc (by simp) _
  rw [← hw0e] at hah ⊢
  clear hw0e hL hO hL' hO'
  refine range_law rfl (by decide) (gf := 59) (lb := #[.pointer (some ⟨w.heap.size + 1 + 1 + 1, 0, none⟩), .pointer (some ⟨w.heap.size + 1 + 1 + 1 + 1, 0, none⟩)]) rfl trivial (enters_of Tryd.func59 (by kernel_rfl) rfl) Due2.encs (fun _ => rfl)
    (Due2.Pre (Reads2 (w.heap.size + 1 + 1) w0 (w.heap.size + 1 + 1) g h))
    (Due2.Post (Reads2 (w.heap.size + 1 + 1) w0 (w.heap.size + 1 + 1) g h))
    (fun c W => c = .ret ∧ Whole W (w.heap.size + 1 + 1) 4 #[.bool false] ∧ Below (w.heap.size + 1 + 1) w0 W ∧ ¬ g.Same h) (Reads2 (w.heap.size + 1 + 1) w0 (w.heap.size + 1 + 1) g h [])
    (pre2_apart fun S => Reads2.apart (by simp; omega) S) (post2_apart fun S => Reads2.apart (by simp; omega) S) (fun c W l o o' hl hk ho _ h => ⟨h.1, h.2.1.apart hk ho o', below_apart h.2.2.1 (by simp at hl; omega) hk o', h.2.2.2⟩) (Reads2.apart (by simp; omega) _) ?seq
    (fun x => { tmps := #[.agg #[.int .u8 g.kind, .int .i64 g.num, .string g.str, .slice AL g.items.length cL, .slice AO g.vals.length cO], .agg #[.int .u8 h.kind, .int .i64 h.num, .string h.str, .slice AL' h.items.length cL', .slice AO' h.vals.length cO'], .pointer (some ⟨w.heap.size, 0, none⟩), .pointer (some ⟨w.heap.size + 1, 0, none⟩), .pointer (some ⟨w.heap.size + 1 + 1, 0, none⟩), .pointer (some ⟨x.1.1.b, x.1.1.off, none⟩), .pointer (some ⟨x.1.2.b, x.1.2.off, none⟩), .func (.func 59) #[] #[.pointer (some ⟨w.heap.size + 1 + 1 + 1, 0, none⟩), .pointer (some ⟨w.heap.size + 1 + 1 + 1 + 1, 0, none⟩)], .pointer (some ⟨x.1.1.b, x.1.1.off, none⟩), .pointer (some ⟨x.1.2.b, x.1.2.off, none⟩), undef, undef, undef, undef], defers := [] }) ?assign ?body ?done ?stop
  case seq =>
    rintro l W rfl ⟨o, o', ho, ho', rfl⟩
    refine pairs1_dues 8 (by decide) _ 1000000000 (Nat.le_refl _) _ _ (fun S X Y q k => q.but (by simp; omega) (by omega) S X Y k) (w.heap.size + 1 + 1 + 1) (w.heap.size + 1 + 1 + 1 + 1) (⟨0, w.heap.size, 0, g⟩, ⟨0, w.heap.size + 1, 0, h⟩) _ ?_ ⟨hg, hh⟩ ?_ ?_
    · refine ⟨hah, (((((Below.refl _ _).alloc (by omega) _).alloc (by simp; omega) _).alloc (by simp; omega) _).alloc (by simp; omega) _).alloc (by simp; omega) _, ?_, by simp⟩
      have := Whole.new w0 4 #[.bool false]
      rw [hw0] at this
      exact (((this.alloc _).alloc _).alloc _).alloc _
    · refine cell_alloc _ (cell_alloc _ (cell_alloc _ ?_))
      have := Whole.new (w0.alloc (.cells #[.bool false] 4)) 62 #[.pointer (some ⟨w.heap.size, 0, none⟩)]
      rw [World.size_alloc, hw0] at this
      exact (this.cell 0).trans rfl
    · refine cell_alloc _ (cell_alloc _ ?_)
      have := Whole.new ((w0.alloc (.cells #[.bool false] 4)).alloc (.cells #[.pointer (some ⟨w.heap.size, 0, none⟩)] 62)) 62 #[.pointer (some ⟨w.heap.size + 1, 0, none⟩)]
      rw [World.size_alloc, World.size_alloc, hw0] at this
      exact (this.cell 0).trans rfl
  case assign =>
    intro l x W K hK
    gi_wp2
    exact hK
  case body =>
    rintro l ⟨x, rest, own⟩ W ⟨⟨hA, hB, hu, hm⟩, hO⟩
    replace hA : Ahead2 (w.heap.size + 1 + 1) w0 (rest ++ [x]) := hA
    have hc : W.cell? ⟨w.heap.size + 1 + 1, 0, none⟩ = some (.bool false) := (hu.cell 0).trans rfl
    have hf : W.frozen? ⟨w.heap.size + 1 + 1, 0, none⟩ = false := hu.frozen 0
    obtain ⟨A1, c1, A2, c2, lb, lo, ob, oo, hx, hOO, hkid, ha1, ha2⟩ := (hA.one x (by simp)).one hB
    obtain ⟨A1', c1', A2', c2', lb', lo', ob', oo', hx', hOO', hkid', ha1', ha2'⟩ := (hA.two x (by simp)).one hB
    have hOW : ObjV (fun k => k < w.heap.size + 1 + 1) W (.slice A2 x.1.g.vals.length c2) x.1.g.keys x.1.g.vals := hOO.keep (fun k hk _ => hB.block k hk) (fun _ h _ => h)
    have hOW' : ObjV (fun k => k < w.heap.size + 1 + 1) W (.slice A2' x.2.g.vals.length c2') x.2.g.keys x.2.g.vals := hOO'.keep (fun k hk _ => hB.block k hk) (fun _ h _ => h)
    have hcall := same_itself (fun k => k < w.heap.size + 1 + 1) x.1.b x.1.off x.2.b x.2.off x.1.g x.2.g A1 A2 A1' A2' c1 c2 c1' c2' W hx hx' hOW hOW'
    have HM := Lib.hid hm
    have HU := Lib.hid hu
    have hWsz : w.heap.size + 1 + 1 ≤ W.heap.size := by have := hB.size; omega
    have HKD := Lib.hid (And.intro hkid hkid')
    have HAH := Lib.hid (hA.front.join ((Ahead2.zip ha1 ha1').join (Ahead2.zip ha2 ha2')))
    clear hm hu hOW hOW' hOO hOO' hx hx' hkid hkid' ha1 ha2 ha1' ha2'
    dsimp only
    have hSelf : SameSelf x.1.g x.2.g ∨ ¬ SameSelf x.1.g x.2.g := Classical.em _
    rcases hSelf with hso | hso
    · have hcall' : Calls Tryd.prog 44 #[.pointer (some ⟨x.1.b, x.1.off, none⟩), .pointer (some ⟨x.2.b, x.2.off, none⟩)] W fun e W1 => e = .returned (.bool true) ∧ Below W.heap.size W W1 := hcall.mono fun e W1 h => by
        obtain ⟨bb, rfl, hbb, hb1⟩ := h
        have : bb = true := hbb.2 hso
        subst this
        exact ⟨rfl, hb1⟩
      have HSO := Lib.hid hso
      clear hcall hso
      gi_wp2_with (refine ⟨trivial, ?_⟩; gi_at_call 44; refine (CallsIn.inRound l (callsIn_wide.2 hcall')).mono ?_; rintro e W1 ⟨rfl, hb1⟩)
      have hb1' : Below (w.heap.size + 1 + 1) w0 W1 := hB.trans (hb1.mono hWsz)
      refine ⟨keeps_below hb1, fun p hp => (hO p hp).below hb1 (hO p hp).lt, lb, lo, ob, oo, lb', lo', ob', oo', HKD.out.1 _ hb1', HKD.out.2 _ hb1', ⟨HAH.out, hb1', HU.out.below hb1 HU.out.lt, ?_⟩⟩
      have h1 := same_kids x lb lo ob oo lb' lo' ob' oo'
      rw [HM.out]
      simp only [List.mem_append, List.mem_singleton]
      constructor
      · intro h y hy
        rcases hy with hy | hy
        · exact h y (.inl hy)
        · exact (h1.1 (h x (.inr rfl))).2 y hy
      · intro h y hy
        rcases hy with hy | rfl
        · exact h y (.inl hy)
        · exact h1.2 ⟨HSO.out, fun z hz => h z (.inr hz)⟩
    · have hcall' : Calls Tryd.prog 44 #[.pointer (some ⟨x.1.b, x.1.off, none⟩), .pointer (some ⟨x.2.b, x.2.off, none⟩)] W fun e W1 => e = .returned (.bool false) ∧ Below W.heap.size W W1 := hcall.mono fun e W1 h => by
        obtain ⟨bb, rfl, hbb, hb1⟩ := h
        cases bb with
        | false => exact ⟨rfl, hb1⟩
        | true => exact absurd (hbb.1 rfl) hso
      have HSO := Lib.hid hso
      clear hcall hso
      gi_wp2_with (refine ⟨trivial, ?_⟩; gi_at_call 44; refine (CallsIn.inRound l (callsIn_wide.2 hcall')).mono ?_; rintro e W1 ⟨rfl, hb1⟩; have hc1 : W1.cell? ⟨w.heap.size + 1 + 1, 0, none⟩ = some (.bool false) := ((HU.out.below hb1 HU.out.lt).cell 0).trans rfl; have hf1 : W1.frozen? ⟨w.heap.size + 1 + 1, 0, none⟩ = false := (HU.out.below hb1 HU.out.lt).frozen 0)
      refine ⟨(keeps_below hb1).trans ((KeepsOthers.setCell _ _ _).from _), rfl, (HU.out.below hb1 HU.out.lt).put 0 _, (hB.trans (hb1.mono hWsz)).setCell (Nat.le_refl _) _, fun h => ?_⟩
      exact HSO.out ((same_kids x 0 0 0 0 0 0 0 0).1 (HM.out.1 h x (by simp))).1
  case done =>
    rintro D W hD ⟨_, hB, hu, hm⟩ hK
    have hc : W.cell? ⟨w.heap.size + 1 + 1, 0, none⟩ = some (.bool false) := (hu.cell 0).trans rfl
    have hf : W.frozen? ⟨w.heap.size + 1 + 1, 0, none⟩ = false := hu.frozen 0
    have HM := Lib.hid hm
    have HU := Lib.hid hu
    clear hm hu
    gi_wp2
    have hK' := (KeepsOthers.setCell W ⟨w.heap.size + 1 + 1, 0, none⟩ (.bool true)).same D _ hK rfl
    refine ⟨by simp, .inl ⟨_, _, rfl, run_takeDeferred hK', ?_⟩⟩
    have hc5 := ((HU.out.put 0 (.bool true)).apart hK' rfl (.deferred none)).cell 0
    refine ⟨.bool true, ?_, true, rfl, ⟨fun _ => HM.out.2 (fun x hx => by cases hx), fun _ => rfl⟩, ?_⟩
    · simp [results, Tryd.results27, go_sem, hc5]
    · exact hB1.trans ((below_apart (hB.setCell (Nat.le_refl _) _) (by simp at hD; omega) hK' _).mono (by omega))
  case stop =>
    rintro D c W hD ⟨rfl, hu, hB, hn⟩ hK
    gi_wp2
    refine ⟨by simp, .inl ⟨_, _, rfl, run_takeDeferred hK, ?_⟩⟩
    have hc5 := (hu.apart hK rfl (.deferred none)).cell 0
    refine ⟨.bool false, ?_, false, rfl, ⟨(fun h => by cases h), fun h => absurd h hn⟩, ?_⟩
    · simp [results, Tryd.results27, go_sem, hc5]
    · exact hB1.trans ((below_apart hB (by simp at hD; omega) hK _).mono (by omega))
end Go.Proofs.YtjknicljbmakeaaDoor
