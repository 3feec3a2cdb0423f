/- Put, the program's. -/
import Derived.Test.YtbmfjchdmicdoaaDoorReachP
import Derived.Test.YtbmfjchdmicdoaaDoorRStep
namespace Go.Proofs.YtbmfjchdmicdoaaDoor
open Go Go.RowKit

set_option maxHeartbeats 2000000 in
theorem put1_at (b off X : Nat) (x : GV) (CL CO : Option Addr) (eL eO : Nat) (W : World) (z0 z1 z2 z3 z4 : Value) (c0 : W.cell? ⟨b, off, none⟩ = some z0) (c1 : W.cell? ⟨b, off + 1, none⟩ = some z1) (c2 : W.cell? ⟨b, off + 2, none⟩ = some z2) (c3 : W.cell? ⟨b, off + 3, none⟩ = some z3) (c4 : W.cell? ⟨b, off + 4, none⟩ = some z4)
    (hwh : ∃ t cs, Whole W b t cs) (hX : Whole W X 29 #[.int .u8 x.kind, .int .i64 x.num, .string x.str, .slice CL x.items.length eL, .slice CO x.vals.length eO]) :
    Calls Tryd.prog 32 #[.pointer (some ⟨b, off, none⟩), .pointer (some ⟨X, 0, none⟩)] W fun e w' => e = .returned (.tuple #[]) ∧
      w' = ((((W.setCell ⟨b, off, none⟩ (.int .u8 x.kind)).setCell ⟨b, off + 1, none⟩ (.int .i64 x.num)).setCell ⟨b, off + 2, none⟩ (.string x.str)).setCell ⟨b, off + 3, none⟩ (.slice CL x.items.length eL)).setCell ⟨b, off + 4, none⟩ (.slice CO x.vals.length eO) := by
  obtain ⟨t, cs, hw⟩ := hwh
  obtain ⟨x0, x1, x2, x3, x4, _⟩ := hX.five
  have f0 := hw.frozen off
  have f1 := hw.frozen (off + 1)
  have f2 := hw.frozen (off + 2)
  have f3 := hw.frozen (off + 3)
  have f4 := hw.frozen (off + 4)
  clear hw hX
  go_enter Tryd.func32, Tryd.ntmps32
  go_wp2
  go_end0
  exact ⟨rfl, rfl⟩

/-- The value, put at (b, off), is there. -/
theorem put_there {b off : Nat} {x : GV} {CL CO : Option Addr} {eL eO : Nat} {W : World} {z0 z1 z2 z3 z4 : Value} {R : Nat} (c0 : W.cell? ⟨b, off, none⟩ = some z0) (c1 : W.cell? ⟨b, off + 1, none⟩ = some z1) (c2 : W.cell? ⟨b, off + 2, none⟩ = some z2) (c3 : W.cell? ⟨b, off + 3, none⟩ = some z3) (c4 : W.cell? ⟨b, off + 4, none⟩ = some z4)
    (hb : R ≤ b) (hL : LstV (fun k => k < R) W (.slice CL x.items.length eL) x.items) (hO : ObjV (fun k => k < R) W (.slice CO x.vals.length eO) x.keys x.vals) :
    x.at (fun _ => True) (((((W.setCell ⟨b, off, none⟩ (.int .u8 x.kind)).setCell ⟨b, off + 1, none⟩ (.int .i64 x.num)).setCell ⟨b, off + 2, none⟩ (.string x.str)).setCell ⟨b, off + 3, none⟩ (.slice CL x.items.length eL)).setCell ⟨b, off + 4, none⟩ (.slice CO x.vals.length eO)) b off := by
  have hJ := just_put5 (b := b) (off := off) W (.int .u8 x.kind) (.int .i64 x.num) (.string x.str) (.slice CL x.items.length eL) (.slice CO x.vals.length eO)
  have hF : From (fun k => k < R) W _ := hJ.from (by omega)
  refine GV.at_iff.2 ⟨.slice CL x.items.length eL, .slice CO x.vals.length eO, ?_, ?_, ?_, ?_, ?_, hL.keep hF (fun _ _ _ => trivial), hO.keep hF (fun _ _ _ => trivial)⟩
  · rw [cell_far _ (by omega), cell_far _ (by omega), cell_far _ (by omega), cell_far _ (by omega)]
    exact World.cell?_setCell_same' _ _ _ (by rw [c0]; rfl)
  · rw [cell_far _ (by omega), cell_far _ (by omega), cell_far _ (by omega)]
    exact World.cell?_setCell_same' _ _ _ (by rw [cell_far _ (by omega), c1]; rfl)
  · rw [cell_far _ (by omega), cell_far _ (by omega)]
    exact World.cell?_setCell_same' _ _ _ (by rw [cell_far _ (by omega), cell_far _ (by omega), c2]; rfl)
  · rw [cell_far _ (by omega)]
    exact World.cell?_setCell_same' _ _ _ (by rw [cell_far _ (by omega), cell_far _ (by omega), cell_far _ (by omega), c3]; rfl)
  · exact World.cell?_setCell_same' _ _ _ (by rw [cell_far _ (by omega), cell_far _ (by omega), cell_far _ (by omega), cell_far _ (by omega), c4]; rfl)

def PutRel (w : World) (R root : Nat) (g x : GV) (ps : List GStep) (v i : Value) (wr : World) : Prop :=
  ∃ (k b off : Nat) (h : GV) (F : GV → GV), v = .pointer (some ⟨b, off, none⟩) ∧ i = .int .i64 k ∧ k ≤ ps.length ∧ PJ w R root g x ps k b off h F wr
/-- What reach comes to. -/
def ReachPut (w : World) (root : Nat) (g x : GV) (ps : List GStep) (e : Ending) (W : World) : Prop :=
  Just root 0 5 w W ∧ ((g.put x ps = none ∧ e = .returned (.int .u16 30)) ∨ ∃ y, g.put x ps = some y ∧ e = .returned (.int .u16 0) ∧ y.at (fun _ => True) W root 0)

theorem three_cells {W W' : World} {n : Nat} {t : TypeId} {a b c : Value} (h : Whole W n t #[a, b, c]) (e : W'.heap[n]? = W.heap[n]?) : W'.cell? ⟨n, 0, none⟩ = some a ∧ W'.cell? ⟨n, 1, none⟩ = some b ∧ W'.cell? ⟨n, 2, none⟩ = some c := by
  have h' := h.of_eq e
  exact ⟨(h'.cell 0).trans rfl, (h'.cell 1).trans rfl, (h'.cell 2).trans rfl⟩

theorem PJ.next {w W W1 : World} {R root : Nat} {g x : GV} {ps : List GStep} {k b off : Nat} {h : GV} {F : GV → GV} (q : PJ w R root g x ps k b off h F W) (hR : R ≤ root) (hr : root < w.heap.size) {AL AO : Option Addr} {cL cO : Nat} {xs ys : List Value} (hl : Loose R b off h W W1 AL AO cL cO xs ys)
    {s : GStep} (hd : ps.drop k = s :: ps.drop (k + 1)) :
    Calls Tryd.prog 41 #[.pointer (some ⟨b, off, none⟩), .agg #[.bool s.list, .int .i64 s.i, .string s.key]] W1 fun e w2 =>
      (h.inside s = none ∧ e = .returned (.pointer none) ∧ Just root 0 5 w w2) ∨ ∃ h' b' o' F', h.inside s = some h' ∧ e = .returned (.pointer (some ⟨b', o', none⟩)) ∧ PJ w R root g x ps (k + 1) b' o' h' F' w2 := by
  have hL := LstV.of_own (ok := fun _ => True) hl.ol (hl.rl.keep (From.refl _ _) (fun _ _ _ => trivial)) (fun _ _ => trivial)
  have hO := ObjV.of_own (ok := fun _ => True) hl.oo (hl.ro.keep (From.refl _ _) (fun _ _ _ => trivial)) (fun _ _ => trivial)
  refine (inside_at (fun _ => True) b off h AL AO cL cO W1 ⟨hl.c0, hl.c1, hl.c2, hl.c3, hl.c4, hL, hO⟩ s).mono fun e w2 hq => ?_
  obtain ⟨hb, hq⟩ := hq
  rcases hq with ⟨h1, he⟩ | ⟨hs, k', n1, o1, h', hi, hg, hin, hA, he⟩ | ⟨hs, n1, o1, h', hg, hin, hA, he⟩
  · exact .inl ⟨h1, he, (q.just.later hl.just q.big hr).trans (Just.of_below hb (Nat.lt_of_lt_of_le (q.root_lt hr) hl.just.size))⟩
  · exact .inr ⟨h', _, _, _, hin, he, q.stepL hR hr hl hb hd hs hi hg hin hA⟩
  · exact .inr ⟨h', _, _, _, hin, he, q.stepO hR hr hl hb hd hs hg hin hA⟩

set_option maxHeartbeats 4000000 in
theorem reach_put (w : World) (R root X : Nat) (g x : GV) (AL AO CL CO : Option Addr) (cL cO eL eO : Nat) (hi : Nat) (A : Option Addr) (cap : Nat) (ps : List GStep) (hR : R ≤ root) (hr : root < w.heap.size) (hXr : X ≠ root) (_hRX : R ≤ X)
    (hw : Whole w root 29 #[.int .u8 g.kind, .int .i64 g.num, .string g.str, .slice AL g.items.length cL, .slice AO g.vals.length cO]) (hL : LstV (fun k => k < R) w (.slice AL g.items.length cL) g.items) (hO : ObjV (fun k => k < R) w (.slice AO g.vals.length cO) g.keys g.vals)
    (hX : Whole w X 29 #[.int .u8 x.kind, .int .i64 x.num, .string x.str, .slice CL x.items.length eL, .slice CO x.vals.length eO]) (hxL : LstV (fun k => k < R) w (.slice CL x.items.length eL) x.items) (hxO : ObjV (fun k => k < R) w (.slice CO x.vals.length eO) x.keys x.vals)
    (hp : Steps hi w A ps) (hhi : hi ≤ R) (hcap : ps.length ≤ cap) (hm : cap ≤ maxLen) (hs : g.weight ≤ 1000000000) :
    Calls Tryd.prog 27 #[.pointer (some ⟨root, 0, none⟩), .slice A ps.length cap, .func (.func 31) #[] #[], .func (.func 32) #[] #[.pointer (some ⟨X, 0, none⟩)]] w (ReachPut w root g x ps) := by
  have hst := PJ.start (x := x) (ps := ps) (_ok := fun _ => True) hr hR hw hL hO hs
  have HST := Lib.hid hst
  have HP := Lib.hid hp
  have HX := Lib.hid (And.intro hX (And.intro hxL hxO))
  have hXlt := hX.lt
  clear hst hp hX hxL hxO hw hL hO
  unfold maxLen at hm
  go_enter Tryd.func27, Tryd.ntmps27
  go_wp2
  go_loopw [0, 13] (PutRel w R root g x ps) (fun _ i _ => ps.length - (intOf i).toNat)
  case atStart => exact ⟨0, root, 0, g, _, rfl, rfl, Nat.zero_le _, HST.out⟩
  case round =>
    obtain ⟨k, b, off, h, F, rfl, rfl, hk, hq⟩ := hrel
    have HQ := Lib.hid hq
    clear hq
    have hsR : Steps hi wr A ps := HP.out.keep (Just.below HQ.out.just (B := hi) (by omega) (by omega)) (Nat.le_refl _)
    by_cases hlt : k < ps.length
    · obtain ⟨pb, po, rfl, hpb, p0, p1, p2⟩ := hsR.one hlt
      clear hsR
      have hdr : ps.drop k = ps[k] :: ps.drop (k + 1) := List.drop_eq_getElem_cons hlt
      have HD := Lib.hid hdr
      clear hdr
      generalize hs : ps[k] = s at *
      have hq1 := fun (o : Obj) => HQ.out.later hr ((Below.refl _ wr).alloc (Nat.le_refl _) o)
      have hloose := fun (o : Obj) => loosen_at R b off h (wr.alloc o) (hq1 o).at' (hq1 o).whole ((hq1 o).le hR hr) (hq1 o).small
      have hblt := HQ.out.lt
      have hnext := fun (o : Obj) (W1 : World) (AL AO : Option Addr) (cL cO : Nat) (xs ys : List Value) (hl : Loose R b off h (wr.alloc o) W1 AL AO cL cO xs ys) => (hq1 o).next hR hr hl HD.out
      have HLO := Lib.hid hloose
      have hthree := Whole.new wr 57 #[.bool s.list, .int .i64 s.i, .string s.key]
      have H3 := Lib.hid hthree
      clear hthree hloose hq1
      cases hio : h.inside s with
      | none =>
        have hc := fun o W1 AL AO cL cO xs ys hl => (hnext o W1 AL AO cL cO xs ys hl).mono (R' := fun e w2 => e = .returned (.pointer none) ∧ Just root 0 5 w w2) fun e w2 hq => hq.elim (fun h => h.2) (fun ⟨_, _, _, _, h, _⟩ => by rw [hio] at h; cases h)
        have HC := Lib.hid hc
        have HST2 := Lib.hid (HQ.out.put_stop HD.out hio)
        clear hc hnext
        go_wp2_with (first | (go_at_call 31; refine (HLO.out _).mono ?_; rintro e w1 ⟨rfl, AL1, AO1, cL1, cO1, xs1, ys1, hl⟩; have HL := Lib.hid hl; obtain ⟨q0, q1, q2⟩ := three_cells H3.out (hl.just.far _ (by simp) (by omega)); clear hl) | (go_at_call 41; refine (HC.out _ _ _ _ _ _ _ _ HL.out).mono ?_; rintro e w2 ⟨rfl, hj⟩; have HJ := Lib.hid hj; clear hj))
        go_ret
        exact ⟨HJ.out, .inl ⟨HST2.out, rfl⟩⟩
      | some h' =>
        have hc := fun o W1 AL AO cL cO xs ys hl => (hnext o W1 AL AO cL cO xs ys hl).mono (R' := fun e w2 => ∃ b' o' F', e = .returned (.pointer (some ⟨b', o', none⟩)) ∧ PJ w R root g x ps (k + 1) b' o' h' F' w2) fun e w2 hq => hq.elim (fun h => by rw [hio] at h; cases h.1) (fun ⟨_, b', o', F', h, he, hp⟩ => by rw [hio] at h; cases h; exact ⟨b', o', F', he, hp⟩)
        have HC := Lib.hid hc
        clear hc hnext
        go_wp2_with (first | (go_at_call 31; refine (HLO.out _).mono ?_; rintro e w1 ⟨rfl, AL1, AO1, cL1, cO1, xs1, ys1, hl⟩; have HL := Lib.hid hl; obtain ⟨q0, q1, q2⟩ := three_cells H3.out (hl.just.far _ (by simp) (by omega)); clear hl) | (go_at_call 41; refine (HC.out _ _ _ _ _ _ _ _ HL.out).mono ?_; rintro e w2 ⟨b', o', F', rfl, hp⟩; have HPJ := Lib.hid hp; clear hp))
        go_roundw
        case rel => exact ⟨k + 1, b', o', h', F', rfl, by go_num, by omega, HPJ.out⟩
        case measure => simp [intOf]; omega
    · have hk' : k = ps.length := by omega
      have hd : ps.drop k = [] := by rw [hk']; simp
      obtain ⟨AL1, AO1, cL1, cO1, hsp⟩ := HQ.out.at'.spot
      have hXb : X ≠ b := by rcases HQ.out.big with ⟨e, _⟩ | h <;> omega
      have hXw : wr.heap[X]? = w.heap[X]? := HQ.out.just.far X hXlt hXr
      have hle := HQ.out.le hR hr
      have hF : From (fun k => k < R) w wr := HQ.out.just.from (by omega)
      have hput := put1_at b off X x CL CO eL eO wr _ _ _ _ _ hsp.c0 hsp.c1 hsp.c2 hsp.c3 hsp.c4 HQ.out.whole (HX.out.1.of_eq hXw)
      have hat := put_there (x := x) hsp.c0 hsp.c1 hsp.c2 hsp.c3 hsp.c4 hle (HX.out.2.1.keep hF (fun _ h _ => h)) (HX.out.2.2.keep hF (fun _ h _ => h))
      have hjust := HQ.out.just.later (just_put5 (b := b) (off := off) wr (.int .u8 x.kind) (.int .i64 x.num) (.string x.str) (.slice CL x.items.length eL) (.slice CO x.vals.length eO)) HQ.out.big hr
      have hroot := HQ.out.wand _ x (just_put5 (b := b) (off := off) wr (.int .u8 x.kind) (.int .i64 x.num) (.string x.str) (.slice CL x.items.length eL) (.slice CO x.vals.length eO)) hat
      have hgo := HQ.out.goes x (by rw [hd]; rfl)
      have HPT := Lib.hid hput
      have HEND := Lib.hid (And.intro hjust (And.intro hroot hgo))
      clear hput hat hjust hroot hgo hsp hXw hF hsR
      go_wp2_with (go_at_call 32; refine HPT.out.mono ?_; rintro e w1 ⟨rfl, rfl⟩)
      go_ret
      exact ⟨HEND.out.1, .inr ⟨F x, HEND.out.2.2, rfl, HEND.out.2.1⟩⟩

def PutPost (g x : GV) (ps : List GStep) (w : World) (e : Ending) (w' : World) : Prop :=
  Below w.heap.size w w' ∧ ((g.put x ps = none ∧ e = .returned (.tuple #[zeroV, .int .u16 30])) ∨ ∃ y v', g.put x ps = some y ∧ e = .returned (.tuple #[v', .int .u16 0]) ∧ y.val (fun k => w.heap.size ≤ k) w' v')

/-- The world in which reach is called. -/
structure PBox (w : World) (g x : GV) (AL AO CL CO : Option Addr) (cL cO eL eO : Nat) (W : World) : Prop where
  size : W.heap.size = w.heap.size + 1 + 1 + 1
  below : Below w.heap.size w W
  root : Whole W w.heap.size 29 #[.int .u8 g.kind, .int .i64 g.num, .string g.str, .slice AL g.items.length cL, .slice AO g.vals.length cO]
  x : Whole W (w.heap.size + 1) 29 #[.int .u8 x.kind, .int .i64 x.num, .string x.str, .slice CL x.items.length eL, .slice CO x.vals.length eO]
  res : Whole W (w.heap.size + 1 + 1) 29 ZC
theorem pboxed (w : World) (g x : GV) (AL AO CL CO : Option Addr) (cL cO eL eO : Nat) :
    PBox w g x AL AO CL CO cL cO eL eO (((w.alloc (.cells #[.int .u8 g.kind, .int .i64 g.num, .string g.str, .slice AL g.items.length cL, .slice AO g.vals.length cO] 29)).alloc (.cells #[.int .u8 x.kind, .int .i64 x.num, .string x.str, .slice CL x.items.length eL, .slice CO x.vals.length eO] 29)).alloc (.cells ZC 29)) := by
  have hb := stepped w (.cells #[.int .u8 g.kind, .int .i64 g.num, .string g.str, .slice AL g.items.length cL, .slice AO g.vals.length cO] 29) (.cells #[.int .u8 x.kind, .int .i64 x.num, .string x.str, .slice CL x.items.length eL, .slice CO x.vals.length eO] 29)
  have h2 := boxes w #[.int .u8 g.kind, .int .i64 g.num, .string g.str, .slice AL g.items.length cL, .slice AO g.vals.length cO] #[.int .u8 x.kind, .int .i64 x.num, .string x.str, .slice CL x.items.length eL, .slice CO x.vals.length eO] 29 29
  exact ⟨by simp, hb.below, h2.1, h2.2, hb.x⟩
theorem just_below {w W W' : World} (hb : Below w.heap.size w W) (hJ : Just w.heap.size 0 5 W W') : Below w.heap.size w W' := hb.trans (hJ.below (Nat.le_refl _) hb.size)

set_option maxHeartbeats 4000000 in
theorem path_Put (ok : Nat → Prop) (v vx : Value) (g x : GV) (hi : Nat) (A : Option Addr) (cap : Nat) (ps : List GStep) (w : World) (hv : g.val ok w v) (hvx : x.val ok w vx) (hp : Steps hi w A ps) (hhi : hi ≤ w.heap.size) (hcap : ps.length ≤ cap) (hm : cap ≤ maxLen) (hw : g.weight ≤ 400000000) (hwx : x.weight ≤ 400000000) :
    Calls Tryd.prog 15 #[v, .slice A ps.length cap, vx] w (PutPost g x ps w) := by
  obtain ⟨L, O, rfl, hL, hO⟩ := hv
  obtain ⟨AL, cL, rfl⟩ := lst_form hL
  obtain ⟨AO, cO, rfl⟩ := obj_form hO
  obtain ⟨L, O, rfl, hxL, hxO⟩ := hvx
  obtain ⟨CL, eL, rfl⟩ := lst_form hxL
  obtain ⟨CO, eO, rfl⟩ := obj_form hxO
  have hcall : ∀ W, PBox w g x AL AO CL CO cL cO eL eO W → Calls Tryd.prog 27 #[.pointer (some ⟨w.heap.size, 0, none⟩), .slice A ps.length cap, .func (.func 31) #[] #[], .func (.func 32) #[] #[.pointer (some ⟨w.heap.size + 1, 0, none⟩)]] W (ReachPut W w.heap.size g x ps) := fun W hB =>
    reach_put W w.heap.size w.heap.size (w.heap.size + 1) g x AL AO CL CO cL cO eL eO w.heap.size A cap ps (Nat.le_refl _) hB.root.lt (by omega) (by omega) hB.root (hL.keep (From.of_below hB.below) (fun k _ h => h)) (hO.keep (From.of_below hB.below) (fun k _ h => h))
      hB.x (hxL.keep (From.of_below hB.below) (fun k _ h => h)) (hxO.keep (From.of_below hB.below) (fun k _ h => h)) (hp.keep (hB.below.mono hhi) hhi) (Nat.le_refl _) hcap hm (by omega)
  have HBOX := Lib.hid (pboxed w g x AL AO CL CO cL cO eL eO)
  clear hp hL hO hxL hxO
  unfold ReachPut at hcall
  unfold ZC at HBOX
  cases hpt : g.put x ps with
  | none =>
    rw [hpt] at hcall
    have hc2 := fun W hB => (hcall W hB).mono (R' := fun e w' => e = .returned (.int .u16 30) ∧ Just w.heap.size 0 5 W w') fun e w' ⟨hj, hq⟩ => hq.elim (fun h => ⟨h.2, hj⟩) (fun ⟨_, h, _⟩ => by cases h)
    have HC := Lib.hid hc2
    have HPT := Lib.hid hpt
    clear hcall hc2 hpt
    go_enter Tryd.func15, Tryd.ntmps15
    go_wp2_with (go_at_call 27; refine (HC.out _ HBOX.out).mono ?_; rintro e w1 ⟨rfl, hj⟩; have hres := HBOX.out.res.of_eq (hj.far _ HBOX.out.res.lt (by omega)); obtain ⟨r0, r1, r2, r3, r4, f0, f1, f2, f3, f4⟩ := hres.five; have HJ := Lib.hid (And.intro hj hres); clear hj hres)
    have hlt : w.heap.size + 1 + 1 < w1.heap.size := HJ.out.2.lt
    obtain ⟨d0, d1, d2, d3, d4, _⟩ := (whole_put5 HJ.out.2 (.int .u8 0) (.int .i64 0) (.string ⟨#[]⟩) (.slice none 0 0) (.slice none 0 0)).five
    unfold put5 at d0 d1 d2 d3 d4
    refine bodyPost_ret (v := .tuple #[zeroV, .int .u16 30]) (by simp [results, Tryd.results15, go_sem, zeroV, d0, d1, d2, d3, d4]) rfl ?_
    refine ⟨?_, .inl ⟨HPT.out, rfl⟩⟩
    exact put5_below (just_below HBOX.out.below HJ.out.1) (by omega) _ _ _ _ _
  | some y =>
    rw [hpt] at hcall
    have hyw : y.weight ≤ 1000000000 := by have := put_weight ps g y hpt; omega
    have hc2 := fun W hB => (hcall W hB).mono (R' := fun e w' => ∃ BL dL BO dO, e = .returned (.int .u16 0) ∧ Spot (fun _ => True) w' w.heap.size 0 y BL BO dL dO ∧ Just w.heap.size 0 5 W w') fun e w' ⟨hj, hq⟩ => hq.elim (fun h => by cases h.1) (fun ⟨_, h, he, hat⟩ => by
      cases h
      obtain ⟨BL, BO, dL, dO, hsp⟩ := hat.spot
      exact ⟨BL, dL, BO, dO, he, hsp, hj⟩)
    have hcopy : ∀ (W : World) (BL BO : Option Addr) (dL dO : Nat), Spot (fun _ => True) W w.heap.size 0 y BL BO dL dO → Calls Tryd.prog 30 #[.agg #[.int .u8 y.kind, .int .i64 y.num, .string y.str, .slice BL y.items.length dL, .slice BO y.vals.length dO]] W fun e w' =>
        ∃ EL fL EO fO, e = .returned (.agg #[.int .u8 y.kind, .int .i64 y.num, .string y.str, .slice EL y.items.length fL, .slice EO y.vals.length fO]) ∧ LstV (fun k => W.heap.size ≤ k) w' (.slice EL y.items.length fL) y.items ∧ ObjV (fun k => W.heap.size ≤ k) w' (.slice EO y.vals.length fO) y.keys y.vals ∧ Below W.heap.size W w' := fun W BL BO dL dO hsp =>
      (val_Copy (fun _ => True) _ y W ⟨_, _, rfl, hsp.lst, hsp.obj⟩ hyw).mono fun e w' ⟨v', he, ⟨L, O, hv, hL, hO⟩, hb⟩ => by
        subst hv
        obtain ⟨EL, fL, rfl⟩ := lst_form hL
        obtain ⟨EO, fO, rfl⟩ := obj_form hO
        exact ⟨EL, fL, EO, fO, he, hL, hO, hb⟩
    have HC := Lib.hid hc2
    have HCP := Lib.hid hcopy
    have HPT := Lib.hid hpt
    clear hcall hc2 hcopy hpt
    go_enter Tryd.func15, Tryd.ntmps15
    go_wp2_with (first
      | (go_at_call 27; refine (HC.out _ HBOX.out).mono ?_; rintro e w1 ⟨BL, dL, BO, dO, rfl, hsp, hj⟩; have hres := HBOX.out.res.of_eq (hj.far _ HBOX.out.res.lt (by omega)); have c0 := hsp.c0; have c1 := hsp.c1; have c2 := hsp.c2; have c3 := hsp.c3; have c4 := hsp.c4; have HJ := Lib.hid (And.intro hj (And.intro hres hsp)); clear hj hres hsp)
      | (go_at_call 30; refine (HCP.out _ _ _ _ _ HJ.out.2.2).mono ?_; rintro e w2 ⟨EL, fL, EO, fO, rfl, hL, hO, hb⟩; have hres := HJ.out.2.1.below hb HJ.out.2.1.lt; obtain ⟨r0, r1, r2, r3, r4, f0, f1, f2, f3, f4⟩ := hres.five; have HV := Lib.hid (And.intro hb (And.intro hres (And.intro hL hO))); clear hb hres hL hO))
    have hlt : w.heap.size + 1 + 1 < w1.heap.size := HJ.out.2.1.lt
    obtain ⟨d0, d1, d2, d3, d4, _⟩ := (whole_put5 HV.out.2.1 (.int .u8 y.kind) (.int .i64 y.num) (.string y.str) (.slice EL y.items.length fL) (.slice EO y.vals.length fO)).five
    unfold put5 at d0 d1 d2 d3 d4
    refine bodyPost_ret (v := .tuple #[.agg #[.int .u8 y.kind, .int .i64 y.num, .string y.str, .slice EL y.items.length fL, .slice EO y.vals.length fO], .int .u16 0]) (by simp [results, Tryd.results15, go_sem, d0, d1, d2, d3, d4]) rfl ?_
    refine ⟨put5_below ((just_below HBOX.out.below HJ.out.1).trans (HV.out.1.mono (by omega))) (by omega) _ _ _ _ _, .inr ⟨y, _, HPT.out, rfl, _, _, rfl, ?_, ?_⟩⟩
    · exact HV.out.2.2.1.keep (fun k hk _ => put5_block _ _ _ _ _ _ _ _ (by omega)) (fun k hk _ => by omega)
    · exact HV.out.2.2.2.keep (fun k hk _ => put5_block _ _ _ _ _ _ _ _ (by omega)) (fun k hk _ => by omega)
end Go.Proofs.YtbmfjchdmicdoaaDoor
