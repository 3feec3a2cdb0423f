/- Encode: a sound value that keeps to the limits comes to its text. -/
import Derived.Test.YtmmjkhkcffgeiaaDoorWVal
import Derived.Test.YtmmjkhkcffgeiaaDoorBaseB
import Derived.Test.YtmmjkhkcffgeiaaDoorBaseA
namespace Go.Proofs.YtmmjkhkcffgeiaaDoor
open Go Go.RowKit Go.Shelf Go.Sort

theorem empty_of (s : ByteArray) (h : s.toList = []) : s = ⟨#[]⟩ := by
  have h2 : s.data.toList = [] := by rw [← h]; exact (ByteArray.toList_eq s).symm
  exact ba_ext (by rw [h2])
theorem rself_of {k n : Int} {s : ByteArray} {l : List GV} {ks : List ByteArray} {ov : List GV} (h : SelfP k n s l ks ov) (hn : -9223372036854775808 ≤ n ∧ n ≤ 9223372036854775807) (hk : ks.length = ov.length) : RSelf k n s l ks ov := by
  obtain ⟨h1, h2, h3, h4, h5⟩ := h
  refine ⟨h1, ?_, ?_, h4, ?_, hk⟩
  · rcases h2 with h | h | h
    · exact .inl ⟨h, hn⟩
    · exact .inr (.inl h)
    · exact .inr (.inr h)
  · rcases h3 with h | h
    · exact .inl h.1
    · exact .inr (empty_of _ h.2)
  · rcases h5 with h | h
    · exact .inl h.1
    · exact .inr h.2
mutual
theorem rs_of_at {ok : Nat → Prop} {W : World} : ∀ (g : GV) {b off : Nat}, g.at ok W b off → g.Sound → g.PosN → g.RS
  | .mk k n s l ks ov, b, off, h, hs, hp => by
    unfold GV.at at h
    obtain ⟨L, O, _, _, _, _, _, hL, hk, hO⟩ := h
    simp only [GV.Sound] at hs
    simp only [GV.PosN] at hp
    simp only [GV.RS]
    refine ⟨rself_of hs.1 hp.1.2 hk, ?_, ?_⟩
    · rcases hL with ⟨rfl, _⟩ | ⟨b', o', c, _, _, _, _, hE⟩
      · simp [GV.RSs]
      · exact rs_of_els l hE hs.2.1 hp.2.1
    · rcases hO with ⟨rfl, _⟩ | ⟨b', o', c, _, _, _, _, _, hE⟩
      · simp [GV.RSs]
      · exact rs_of_els ov hE hs.2.2 hp.2.2
theorem rs_of_els {ok : Nat → Prop} {W : World} : ∀ (l : List GV) {b step off : Nat}, GV.els ok W b step off l → GV.Sounds l → GV.PosNs l → GV.RSs l
  | [], _, _, _, _, _, _ => by simp [GV.RSs]
  | g :: r, _, _, _, h, hs, hp => by
    unfold GV.els at h
    simp only [GV.Sounds] at hs
    simp only [GV.PosNs] at hp
    simp only [GV.RSs]
    exact ⟨rs_of_at g h.1 hs.1 hp.1, rs_of_els r h.2 hs.2 hp.2⟩
end
theorem rs_of_val {ok : Nat → Prop} {W : World} {v : Value} {g : GV} (h : g.val ok W v) (hs : g.Sound) (hp : g.PosN) : g.RS := by
  obtain ⟨L, O, _, hL, hO⟩ := h
  cases g with
  | mk k n s l ks ov =>
    simp only [GV.items, GV.keys, GV.vals] at hL hO
    simp only [GV.Sound] at hs
    simp only [GV.PosN] at hp
    simp only [GV.RS]
    refine ⟨rself_of hs.1 hp.1.2 hO.1, ?_, ?_⟩
    · rcases hL with ⟨rfl, _⟩ | ⟨b', o', c, _, _, _, _, hE⟩
      · simp [GV.RSs]
      · exact rs_of_els l hE hs.2.1 hp.2.1
    · rcases hO.2 with ⟨rfl, _⟩ | ⟨b', o', c, _, _, _, _, _, hE⟩
      · simp [GV.RSs]
      · exact rs_of_els ov hE hs.2.2 hp.2.2

theorem below_alloc0 (W : World) (o : Obj) : Below W.heap.size W (W.alloc o) := (Below.refl _ W).alloc (Nat.le_refl _) o
/-- The limits. -/
def Fits (g : GV) : Prop := g.deep ≤ 16 ∧ g.weight ≤ 20000
set_option maxHeartbeats 4000000 in
set_option maxRecDepth 100000 in
theorem j_fits (ok : Nat → Prop) (g : GV) (AL AO : Option Addr) (cL cO : Nat) (w : World) (hL : LstV ok w (.slice AL g.items.length cL) g.items) (hO : ObjV ok w (.slice AO g.vals.length cO) g.keys g.vals) (hg : g.weight ≤ 1000000000) :
    Calls Tryd.prog 20 #[.agg #[.int .u8 g.kind, .int .i64 g.num, .string g.str, .slice AL g.items.length cL, .slice AO g.vals.length cO]] w (BoolPost (Fits g) w) := by
  have hz := size_le_weight g
  have HD := Lib.hid (fun o => val_Deep ok _ g (w.alloc o) ⟨_, _, rfl, hL.keep (From.of_below (below_alloc0 w o)) (fun _ h _ => h), hO.keep (From.of_below (below_alloc0 w o)) (fun _ h _ => h)⟩ (by omega))
  have HW := Lib.hid (fun (o : Obj) (W2 : World) (hb : Below (w.alloc o).heap.size (w.alloc o) W2) => val_Weight ok _ g W2 ⟨_, _, rfl, hL.keep (From.of_below ((below_alloc0 w o).trans (hb.mono (by simp)))) (fun _ h _ => h), hO.keep (From.of_below ((below_alloc0 w o).trans (hb.mono (by simp)))) (fun _ h _ => h)⟩ hg)
  clear hL hO
  by_cases hd : g.deep ≤ 16
  · have d1 : decide ((g.deep : Int) ≤ 16) = true := by simp; omega
    by_cases hw : g.weight ≤ 20000
    · have d2 : decide ((g.weight : Int) ≤ 20000) = true := by simp; omega
      have HF := Lib.hid (And.intro hd hw)
      clear hd hw
      go_enter Tryd.func20, Tryd.ntmps20
      go_wp2_with (first | (go_at_call 34; refine (HD.out _).mono ?_; rintro e W1 ⟨rfl, hb⟩; have hx := (Whole.new w _ _).below hb (by simp); obtain ⟨b0, b1, b2, b3, b4, _⟩ := hx.five; have H1 := Lib.hid hb; clear hb hx) | (go_at_call 35; refine (HW.out _ _ H1.out).mono ?_; rintro e W2 ⟨rfl, hb⟩; have H2 := Lib.hid hb; clear hb))
      go_ret
      exact ⟨true, rfl, ⟨fun _ => HF.out, fun _ => rfl⟩, (below_alloc0 w _).trans ((H1.out.trans (H2.out.mono H1.out.size)).mono (by simp))⟩
    · have d2 : decide ((g.weight : Int) ≤ 20000) = false := by simp; omega
      have HF := Lib.hid hw
      clear hd hw
      go_enter Tryd.func20, Tryd.ntmps20
      go_wp2_with (first | (go_at_call 34; refine (HD.out _).mono ?_; rintro e W1 ⟨rfl, hb⟩; have hx := (Whole.new w _ _).below hb (by simp); obtain ⟨b0, b1, b2, b3, b4, _⟩ := hx.five; have H1 := Lib.hid hb; clear hb hx) | (go_at_call 35; refine (HW.out _ _ H1.out).mono ?_; rintro e W2 ⟨rfl, hb⟩; have H2 := Lib.hid hb; clear hb))
      go_ret
      exact ⟨false, rfl, ⟨(fun h => by cases h), fun h => absurd h.2 HF.out⟩, (below_alloc0 w _).trans ((H1.out.trans (H2.out.mono H1.out.size)).mono (by simp))⟩
  · have d1 : decide ((g.deep : Int) ≤ 16) = false := by simp; omega
    have HF := Lib.hid hd
    clear hd
    go_enter Tryd.func20, Tryd.ntmps20
    go_wp2_with (first | (go_at_call 34; refine (HD.out _).mono ?_; rintro e W1 ⟨rfl, hb⟩; have hx := (Whole.new w _ _).below hb (by simp); obtain ⟨b0, b1, b2, b3, b4, _⟩ := hx.five; have H1 := Lib.hid hb; clear hb hx) | (go_at_call 35; refine (HW.out _ _ H1.out).mono ?_; rintro e W2 ⟨rfl, hb⟩; have H2 := Lib.hid hb; clear hb))
    go_ret
    exact ⟨false, rfl, ⟨(fun h => by cases h), fun h => absurd h.1 HF.out⟩, (below_alloc0 w _).trans (H1.out.mono (by simp))⟩

/-- How Encode ends. -/
def EncOut (g : GV) (w : World) (e : Ending) (w' : World) : Prop :=
  Below w.heap.size w w' ∧ ((¬ g.Sound ∧ e = .returned (.tuple #[.string ⟨#[]⟩, .int .u16 1])) ∨ (g.Sound ∧ ¬ Fits g ∧ e = .returned (.tuple #[.string ⟨#[]⟩, .int .u16 3])) ∨ (g.Sound ∧ Fits g ∧ e = .returned (.tuple #[.string ⟨g.enc.toArray⟩, .int .u16 0])))
def TenT (w : World) : Prop := Lib.TabIs Tryd.prog w "internal/strconv.uint64pow10" .u64 Lib.pow10Tab
theorem TenT.below {w w' : World} (h : TenT w) (hb : Below w.heap.size w w') : TenT w' := Lib.tabBelow_of_tabIs h w' hb
theorem TenT.tenB {w : World} (h : TenT w) : TenB w.heap.size w := Lib.tabBelow_of_tabIs h
theorem enc_ne {g : GV} (h : g.RS) : g.enc ≠ [] := by
  obtain ⟨c, t, he, _⟩ := enc_head h
  rw [he]
  simp
set_option maxHeartbeats 8000000 in
set_option maxRecDepth 100000 in
theorem j_Encode (ok : Nat → Prop) (v : Value) (g : GV) (w : World) (hv : g.val ok w v) (hg : g.weight ≤ 1000000000) (hp : g.PosN) (hU : Tabs w) (hT : TenT w) :
    Calls Tryd.prog 11 #[v] w (EncOut g w) := by
  have hrs := rs_of_val hv
  obtain ⟨L, O, rfl, hL, hO⟩ := hv
  obtain ⟨AL, cL, rfl⟩ := lst_form hL
  obtain ⟨AO, cO, rfl⟩ := obj_form hO
  have HS := Lib.hid (fun o => val_Sound ok _ g (w.alloc o) ⟨_, _, rfl, hL.keep (From.of_below (below_alloc0 w o)) (fun _ h _ => h), hO.keep (From.of_below (below_alloc0 w o)) (fun _ h _ => h)⟩ hg (hU.below (below_alloc0 w o) (Nat.le_refl _)))
  have HF := Lib.hid (fun (W2 : World) (hb : Below w.heap.size w W2) => j_fits ok g AL AO cL cO W2 (hL.keep (From.of_below hb) (fun _ h _ => h)) (hO.keep (From.of_below hb) (fun _ h _ => h)) hg)
  have HV := Lib.hid (fun (W2 : World) (o : Obj) (hb : Below w.heap.size w W2) (hs : g.Sound) (hfit : Fits g) (hbl : Bld W2.heap.size W2.heap.size [] (W2.alloc o)) =>
    w_any g.size g (Nat.le_refl _) (hrs hs hp) W2.heap.size W2.heap.size [] (.agg #[.int .u8 g.kind, .int .i64 g.num, .string g.str, .slice AL g.items.length cL, .slice AO g.vals.length cO]) (W2.alloc o)
      ⟨_, _, rfl, (hL.keep (ok' := fun k => k < W2.heap.size) (From.of_below hb) (fun k _ hk => by have := hb.size; omega)).keep (From.of_below (below_alloc0 W2 o)) (fun _ h _ => h), (hO.keep (ok' := fun k => k < W2.heap.size) (From.of_below hb) (fun k _ hk => by have := hb.size; omega)).keep (From.of_below (below_alloc0 W2 o)) (fun _ h _ => h)⟩
      hbl ((hT.below hb).tenB.later (below_alloc0 W2 o)) (by have := hfit.2; simp; omega))
  have HNE := Lib.hid (fun hs => enc_ne (hrs hs hp))
  clear hL hO hrs hU hT
  go_enter Tryd.func11, Tryd.ntmps11
  go_wp2_with (first
    | (go_at_call 19; refine (HS.out _).mono ?_; rintro e W1 ⟨b, rfl, hb1, hb⟩; have hx := (Whole.new w _ _).below hb (by simp); obtain ⟨b0, b1, b2, b3, b4, _⟩ := hx.five; have H1 := Lib.hid (And.intro hx ((below_alloc0 w _).trans (hb.mono (by simp)))); have HB1 := Lib.hid hb1; clear hb hx hb1; cases b)
    | (go_at_call 20; refine (HF.out _ H1.out.2).mono ?_; rintro e W2 ⟨c, rfl, hc1, hb⟩; have hx := H1.out.1.below hb H1.out.1.lt; clear b0 b1 b2 b3 b4; obtain ⟨b0, b1, b2, b3, b4, _⟩ := hx.five; have H2 := Lib.hid (H1.out.2.trans (hb.mono H1.out.2.size)); have HC1 := Lib.hid hc1; have hx2 := fun o => (Whole.alloc hx o).five; have b0 := fun o => (hx2 o).c0; have b1 := fun o => (hx2 o).c1; have b2 := fun o => (hx2 o).c2; have b3 := fun o => (hx2 o).c3; have b4 := fun o => (hx2 o).c4; clear hb hx hc1 hx2; cases c)
    | (go_at_call 21; refine (HV.out W2 _ H2.out (HB1.out.1 (by simp)) (HC1.out.1 (by simp)) (Lib.fresh_isBuilder _ _ _)).mono ?_; rintro e W4 ⟨rfl, hB, hw⟩; rw [List.nil_append] at hB; have K4 := Lib.hid (And.intro hB hw); clear hB hw)
    | (go_at_call 22; refine (bld_string _ _ _ _ K4.out.1 (HNE.out (HB1.out.1 (by simp)))).mono ?_; rintro e W5 ⟨rfl, hb⟩; have K5 := Lib.hid hb; clear hb))
  all_goals go_ret2
  · exact ⟨H1.out.2, .inl ⟨(fun h => by cases HB1.out.2 h), rfl⟩⟩
  · exact ⟨H2.out, .inr (.inl ⟨HB1.out.1 (by simp), (fun h => by cases HC1.out.2 h), rfl⟩)⟩
  · exact ⟨H2.out.trans ((((below_alloc0 W2 _).trans (K4.out.2.below)).trans K5.out).mono H2.out.size), .inr (.inr ⟨HB1.out.1 (by simp), HC1.out.1 (by simp), rfl⟩)⟩
end Go.Proofs.YtmmjkhkcffgeiaaDoor
