/- Sound, the program's. -/
import Derived.Test.YtjknicljbmakeaaDoorWeight
import Derived.Test.YtjknicljbmakeaaDoorItself
namespace Go.Proofs.YtjknicljbmakeaaDoor
open Go Go.RowKit Go.Shelf
attribute [local go_sem] Oper.semAt_some


mutual
/-- A value is sound. -/
def GV.Sound : GV → Prop
  | .mk k n s l ks ov => SelfP k n s l ks ov ∧ GV.Sounds l ∧ GV.Sounds ov
def GV.Sounds : List GV → Prop
  | [] => True
  | g :: r => GV.Sound g ∧ GV.Sounds r
end
theorem sounds_items {d b step : Nat} : ∀ {off : Nat} {l : List GV}, (∀ x ∈ itemsAt d b step off l, x.g.Sound) ↔ GV.Sounds l
  | _, [] => by simp [itemsAt, GV.Sounds]
  | _, _ :: r => by simp [itemsAt, GV.Sounds, sounds_items (l := r)]
theorem sound_kids (x : Item) (lb lo ob oo : Nat) : x.g.Sound ↔ SelfOk x.g ∧ ∀ y ∈ kids x lb lo ob oo, y.g.Sound := by
  have h : (∀ y ∈ kids x lb lo ob oo, y.g.Sound) ↔ GV.Sounds x.g.items ∧ GV.Sounds x.g.vals := by
    unfold kids
    rw [← sounds_items (d := x.d + 1) (b := lb) (step := 5) (off := lo), ← sounds_items (d := x.d + 1) (b := ob) (step := 6) (off := oo + 1)]
    simp only [List.mem_append]
    exact ⟨fun h => ⟨fun y hy => h y (.inl hy), fun y hy => h y (.inr hy)⟩, fun h y hy => hy.elim (h.1 y) (h.2 y)⟩
  rw [h]
  unfold SelfOk
  cases x.g with | mk k n s l ks ov => simp only [GV.Sound, GV.kind, GV.num, GV.str, GV.items, GV.keys, GV.vals]
set_option maxRecDepth 100000 in
set_option maxHeartbeats 4000000 in
theorem val_Sound (ok : Nat → Prop) (v : Value) (g : GV) (w : World) (hv : g.val ok w v) (hg : g.weight ≤ 1000000000) (hT : Tabs w) :
    Calls Tryd.prog 20 #[v] w (BoolPost g.Sound w) := by
  obtain ⟨L, O, rfl, hL, hO⟩ := hv
  obtain ⟨AL, cL, rfl⟩ := lst_form hL
  obtain ⟨AO, cO, rfl⟩ := obj_form hO
  refine (callsIn_wide (n := 9)).1 ?_
  refine callsIn_of_wp_marks Tryd.func20 rfl trivial ?_ rfl
  simp only [Tryd.ntmps20, List.size_toArray, List.length_cons, List.length_nil, Nat.reduceAdd, Nat.reduceSub, Array.replicate_succ, Array.replicate_zero, List.push_toArray, List.append_toArray, List.nil_append, List.cons_append]
  gi_wp2_with (refine ⟨trivial, ?_⟩; gi_at_call 40; refine (callsIn_wide.2 (call_all _ _)).mono ?_; rintro e w' ⟨rfl, rfl⟩)
  have hah := ahead_start hL hO
  have hw0 : (w.alloc (.cells #[.int .u8 g.kind, .int .i64 g.num, .string g.str, .slice AL g.items.length cL, .slice AO g.vals.length cO] 28)).heap.size = w.heap.size + 1 := by simp
  have hB1 : Below w.heap.size w (w.alloc (.cells #[.int .u8 g.kind, .int .i64 g.num, .string g.str, .slice AL g.items.length cL, .slice AO g.vals.length cO] 28)) := (Below.refl _ _).alloc (Nat.le_refl _) _
  obtain ⟨w0, hw0e⟩ : ∃ w0, w0 = w.alloc (.cells #[.int .u8 g.kind, .int .i64 g.num, .string g.str, .slice AL g.items.length cL, .slice AO g.vals.length cO] 28) := ⟨_, rfl⟩
  rw [← hw0e] at hah hw0 hB1 ⊢
  clear hw0e hL hO
  have hJb : ∀ (base : Nat), w.heap.size + 1 ≤ base → ∀ S X Y, Reads1 (w.heap.size + 1) w0 (w.heap.size + 1) 4 (fun S u => u = .bool false ∧ wsum S ≤ 1000000000 ∧ (g.Sound ↔ ∀ x ∈ S, x.g.Sound)) S X → But 84 base X Y → Reads1 (w.heap.size + 1) w0 (w.heap.size + 1) 4 (fun S u => u = .bool false ∧ wsum S ≤ 1000000000 ∧ (g.Sound ↔ ∀ x ∈ S, x.g.Sound)) S Y :=
    fun base hb S X Y h k => h.but hb (by omega) (by decide) S X Y k
  refine range_law rfl (by decide) (gf := 56) (lb := #[.pointer (some ⟨w.heap.size + 1 + 1, 0, none⟩)]) rfl trivial (enters_of Tryd.func56 (by kernel_rfl) rfl) Due.encs (fun _ => rfl)
    (Due.Pre (Reads1 (w.heap.size + 1) w0 (w.heap.size + 1) 4 (fun S u => u = .bool false ∧ wsum S ≤ 1000000000 ∧ (g.Sound ↔ ∀ x ∈ S, x.g.Sound))))
    (Due.Post (Reads1 (w.heap.size + 1) w0 (w.heap.size + 1) 4 (fun S u => u = .bool false ∧ wsum S ≤ 1000000000 ∧ (g.Sound ↔ ∀ x ∈ S, x.g.Sound))))
    (fun c W => c = .ret ∧ Whole W (w.heap.size + 1) 4 #[.bool false] ∧ Below (w.heap.size + 1) w0 W ∧ ¬ g.Sound) (Reads1 (w.heap.size + 1) w0 (w.heap.size + 1) 4 (fun S u => u = .bool false ∧ wsum S ≤ 1000000000 ∧ (g.Sound ↔ ∀ x ∈ S, x.g.Sound)) [])
    (pre_apart fun S => Reads1.apart (by simp; omega) S) (post_apart fun S => Reads1.apart (by simp; omega) S) (fun c W l o o' hl hk ho _ h => ⟨h.1, h.2.1.apart hk ho o', below_apart h.2.2.1 (by simp at hl; omega) hk o', h.2.2.2⟩) (Reads1.apart (by simp; omega) _) ?seq
    (fun x => { tmps := #[.agg #[.int .u8 g.kind, .int .i64 g.num, .string g.str, .slice AL g.items.length cL, .slice AO g.vals.length cO], .pointer (some ⟨w.heap.size, 0, none⟩), .pointer (some ⟨w.heap.size + 1, 0, none⟩), undef, .pointer (some ⟨x.1.b, x.1.off, none⟩), .func (.func 56) #[] #[.pointer (some ⟨w.heap.size + 1 + 1, 0, none⟩)], .int .i64 x.1.d, .pointer (some ⟨x.1.b, x.1.off, none⟩), undef, undef, undef], defers := [] }) ?assign ?body ?done ?stop
  case seq =>
    rintro l W rfl ⟨o, o', ho, ho', rfl⟩
    refine all1_dues 8 (by decide) _ 1000000000 (Nat.le_refl _) _ _ (hJb _ (by simp; omega)) (w.heap.size + 1 + 1) ⟨0, w.heap.size, 0, g⟩ _ ?_ (by have := size_le_weight g; simp; omega) ?_ rfl
    · refine ⟨hah, ((((Below.refl _ _).alloc (by omega) _).alloc (by simp; omega) _).alloc (by simp; omega) _).alloc (by simp; omega) _, .bool false, ?_, rfl, by simpa [wsum] using hg, by simp⟩
      have := Whole.new w0 4 #[.bool false]
      rw [hw0] at this
      exact ((this.alloc _).alloc _).alloc _
    · refine cell_alloc _ (cell_alloc _ ?_)
      have := Whole.new (w0.alloc (.cells #[.bool false] 4)) 62 #[.pointer (some ⟨w.heap.size, 0, none⟩)]
      rw [World.size_alloc, hw0] at this
      exact (this.cell 0).trans rfl
  case assign =>
    intro l x W K hK
    gi_wp2
    exact hK
  case body =>
    rintro l ⟨x, rest, own⟩ W ⟨⟨hA, hB, u, hu, rfl, hws, hm⟩, hO⟩
    replace hA : Ahead (w.heap.size + 1) w0 (rest ++ [x]) := hA
    have hc : W.cell? ⟨w.heap.size + 1, 0, none⟩ = some (.bool false) := (hu.cell 0).trans rfl
    have hf : W.frozen? ⟨w.heap.size + 1, 0, none⟩ = false := hu.frozen 0
    obtain ⟨A1, c1, A2, c2, lb, lo, ob, oo, hx0, hx1, hx2, hx3, hx4, hLL, hOO, hkid, hah2⟩ := hA.now hB
    have hOW : ObjV (fun k => k < w.heap.size + 1) W (.slice A2 x.g.vals.length c2) x.g.keys x.g.vals := hOO.keep (fun k hk _ => hB.block k hk) (fun _ h _ => h)
    have hTW : Tabs W := (hT.below hB1 (Nat.le_refl _)).below hB (by omega)
    have hwx : x.g.weight ≤ 1000000000 := Nat.le_trans (weight_le (S := rest ++ [x]) (by simp)) hws
    have hcall := sound_itself (fun k => k < w.heap.size + 1) x.b x.off x.g A1 A2 c1 c2 W hx0 hx1 hx2 hx3 hx4 hOW hTW hwx
    have HM := Lib.hid hm
    have HU := Lib.hid hu
    have HWS := Lib.hid hws
    have hWsz : w.heap.size + 1 ≤ W.heap.size := by have := hB.size; omega
    clear hm hu hws hOW hLL hOO hx0 hx1 hx2 hx3 hx4 hkid hah2 hTW
    dsimp only
    have hSelf : SelfOk x.g ∨ ¬ SelfOk x.g := Classical.em _
    rcases hSelf with hso | hso
    · have hcall' : Calls Tryd.prog 41 #[.pointer (some ⟨x.b, x.off, none⟩)] W fun e W1 => e = .returned (.bool true) ∧ Below W.heap.size W W1 := hcall.mono fun e W1 h => by
        obtain ⟨bb, rfl, hbb, hb1⟩ := h
        have : bb = true := hbb.2 hso
        subst this
        exact ⟨rfl, hb1⟩
      have HSO := Lib.hid hso
      clear hcall hso
      gi_wp2_with (refine ⟨trivial, ?_⟩; gi_at_call 41; refine (CallsIn.inRound l (callsIn_wide.2 hcall')).mono ?_; rintro e W1 ⟨rfl, hb1⟩)
      refine reads_stay hA hB hWsz HU.out hO hb1 (keeps_below hb1) (fun lb lo ob oo => ⟨rfl, ?_, ?_⟩)
      · have h1 := HWS.out
        have h2 := weight_eq x lb lo ob oo
        rw [wsum_append] at h1 ⊢
        simp only [wsum] at h1
        omega
      · have h1 := sound_kids x lb lo ob oo
        rw [HM.out]
        simp only [List.mem_append, List.mem_singleton]
        constructor
        · intro h y hy
          rcases hy with hy | hy
          · exact h y (.inl hy)
          · exact (h1.1 (h x (.inr rfl))).2 y hy
        · intro h y hy
          rcases hy with hy | rfl
          · exact h y (.inl hy)
          · exact h1.2 ⟨HSO.out, fun z hz => h z (.inr hz)⟩
    · have hcall' : Calls Tryd.prog 41 #[.pointer (some ⟨x.b, x.off, none⟩)] W fun e W1 => e = .returned (.bool false) ∧ Below W.heap.size W W1 := hcall.mono fun e W1 h => by
        obtain ⟨bb, rfl, hbb, hb1⟩ := h
        cases bb with
        | false => exact ⟨rfl, hb1⟩
        | true => exact absurd (hbb.1 rfl) hso
      have HSO := Lib.hid hso
      clear hcall hso
      gi_wp2_with (refine ⟨trivial, ?_⟩; gi_at_call 41; refine (CallsIn.inRound l (callsIn_wide.2 hcall')).mono ?_; rintro e W1 ⟨rfl, hb1⟩; have hc1 : W1.cell? ⟨w.heap.size + 1, 0, none⟩ = some (.bool false) := ((HU.out.below hb1 HU.out.lt).cell 0).trans rfl; have hf1 : W1.frozen? ⟨w.heap.size + 1, 0, none⟩ = false := (HU.out.below hb1 HU.out.lt).frozen 0)
      refine ⟨(keeps_below hb1).trans ((KeepsOthers.setCell _ _ _).from _), rfl, (HU.out.below hb1 HU.out.lt).put 0 _, (hB.trans (hb1.mono hWsz)).setCell (Nat.le_refl _) _, fun h => ?_⟩
      exact HSO.out ((sound_kids x 0 0 0 0).1 (HM.out.1 h x (by simp))).1
  case done =>
    rintro D W hD ⟨_, hB, u, hu, rfl, _, hm⟩ hK
    have hc : W.cell? ⟨w.heap.size + 1, 0, none⟩ = some (.bool false) := (hu.cell 0).trans rfl
    have hf : W.frozen? ⟨w.heap.size + 1, 0, none⟩ = false := hu.frozen 0
    have HM := Lib.hid hm
    have HU := Lib.hid hu
    clear hm hu
    gi_wp2
    have hK' := (KeepsOthers.setCell W ⟨w.heap.size + 1, 0, none⟩ (.bool true)).same D _ hK rfl
    refine ⟨by simp, .inl ⟨_, _, rfl, run_takeDeferred hK', ?_⟩⟩
    have hc5 := ((HU.out.put 0 (.bool true)).apart hK' rfl (.deferred none)).cell 0
    refine ⟨.bool true, ?_, true, rfl, ⟨fun _ => HM.out.2 (fun x hx => by cases hx), fun _ => rfl⟩, ?_⟩
    · simp [results, Tryd.results20, go_sem, hc5]
    · exact hB1.trans ((below_apart (hB.setCell (Nat.le_refl _) _) (by simp at hD; omega) hK' _).mono (by omega))
  case stop =>
    rintro D c W hD ⟨rfl, hu, hB, hn⟩ hK
    gi_wp2
    refine ⟨by simp, .inl ⟨_, _, rfl, run_takeDeferred hK, ?_⟩⟩
    have hc5 := (hu.apart hK rfl (.deferred none)).cell 0
    refine ⟨.bool false, ?_, false, rfl, ⟨(fun h => by cases h), fun h => absurd h hn⟩, ?_⟩
    · simp [results, Tryd.results20, go_sem, hc5]
    · exact hB1.trans ((below_apart hB (by simp at hD; omega) hK _).mono (by omega))
end Go.Proofs.YtjknicljbmakeaaDoor
