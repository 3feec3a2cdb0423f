/- Deep, the program's. -/
import Derived.Test.YtjknicljbmakeaaDoorRead
namespace Go.Proofs.YtjknicljbmakeaaDoor
open Go Go.RowKit Go.Shelf
attribute [local go_sem] Oper.semAt_some

set_option maxRecDepth 100000 in
set_option maxHeartbeats 4000000 in
theorem val_Deep (ok : Nat → Prop) (v : Value) (g : GV) (w : World) (hv : g.val ok w v) (hg : g.size ≤ 1000000000) :
    Calls Tryd.prog 24 #[v] w fun e w' => e = .returned (.int .i64 g.deep) ∧ Below w.heap.size w w' := by
  obtain ⟨L, O, rfl, hL, hO⟩ := hv
  obtain ⟨AL, cL, rfl⟩ := lst_form hL
  obtain ⟨AO, cO, rfl⟩ := obj_form hO
  refine (callsIn_wide (n := 9)).1 ?_
  refine callsIn_of_wp_marks Tryd.func24 rfl trivial ?_ rfl
  simp only [Tryd.ntmps24, List.size_toArray, List.length_cons, List.length_nil, Nat.reduceAdd, Nat.reduceSub, Array.replicate_succ, Array.replicate_zero, List.push_toArray, List.append_toArray, List.nil_append, List.cons_append]
  gi_wp2_with (refine ⟨trivial, ?_⟩; gi_at_call 40; refine (callsIn_wide.2 (call_all _ _)).mono ?_; rintro e w' ⟨rfl, rfl⟩)
  have hah := ahead_start hL hO
  have hw0 : (w.alloc (.cells #[.int .u8 g.kind, .int .i64 g.num, .string g.str, .slice AL g.items.length cL, .slice AO g.vals.length cO] 28)).heap.size = w.heap.size + 1 := by simp
  have hB1 : Below w.heap.size w (w.alloc (.cells #[.int .u8 g.kind, .int .i64 g.num, .string g.str, .slice AL g.items.length cL, .slice AO g.vals.length cO] 28)) := (Below.refl _ _).alloc (Nat.le_refl _) _
  obtain ⟨w0, hw0e⟩ : ∃ w0, w0 = w.alloc (.cells #[.int .u8 g.kind, .int .i64 g.num, .string g.str, .slice AL g.items.length cL, .slice AO g.vals.length cO] 28) := ⟨_, rfl⟩
  rw [← hw0e] at hah hw0 hB1 ⊢
  clear hw0e hL hO
  have hJb : ∀ (base : Nat), w.heap.size + 1 ≤ base → ∀ S X Y, Reads1 (w.heap.size + 1) w0 (w.heap.size + 1) 3 (fun S u => ∃ m : Nat, u = .int .i64 m ∧ max m (dmaxs S) = g.deep) S X → But 84 base X Y → Reads1 (w.heap.size + 1) w0 (w.heap.size + 1) 3 (fun S u => ∃ m : Nat, u = .int .i64 m ∧ max m (dmaxs S) = g.deep) S Y :=
    fun base hb S X Y h k => h.but hb (by omega) (by decide) S X Y k
  refine range_law rfl (by decide) (gf := 56) (lb := #[.pointer (some ⟨w.heap.size + 1 + 1, 0, none⟩)]) rfl trivial (enters_of Tryd.func56 (by kernel_rfl) rfl) Due.encs (fun _ => rfl)
    (Due.Pre (Reads1 (w.heap.size + 1) w0 (w.heap.size + 1) 3 (fun S u => ∃ m : Nat, u = .int .i64 m ∧ max m (dmaxs S) = g.deep)))
    (Due.Post (Reads1 (w.heap.size + 1) w0 (w.heap.size + 1) 3 (fun S u => ∃ m : Nat, u = .int .i64 m ∧ max m (dmaxs S) = g.deep)))
    (fun _ _ => False) (Reads1 (w.heap.size + 1) w0 (w.heap.size + 1) 3 (fun S u => ∃ m : Nat, u = .int .i64 m ∧ max m (dmaxs S) = g.deep) [])
    (pre_apart fun S => Reads1.apart (by simp; omega) S) (post_apart fun S => Reads1.apart (by simp; omega) S) (fun _ _ _ _ _ _ _ _ _ h => h) (Reads1.apart (by simp; omega) _) ?seq
    (fun x => { tmps := #[.agg #[.int .u8 g.kind, .int .i64 g.num, .string g.str, .slice AL g.items.length cL, .slice AO g.vals.length cO], .pointer (some ⟨w.heap.size, 0, none⟩), .int .i64 0, .pointer (some ⟨w.heap.size + 1, 0, none⟩), .int .i64 x.1.d, .func (.func 56) #[] #[.pointer (some ⟨w.heap.size + 1 + 1, 0, none⟩)], .int .i64 x.1.d, .pointer (some ⟨x.1.b, x.1.off, none⟩), undef, undef, undef, undef], defers := [] }) ?assign ?body ?done ?stop
  case seq =>
    rintro l W rfl ⟨o, o', ho, ho', rfl⟩
    refine all1_dues 8 (by decide) _ 1000000000 (Nat.le_refl _) _ _ (hJb _ (by simp; omega)) (w.heap.size + 1 + 1) ⟨0, w.heap.size, 0, g⟩ _ ?_ (by simpa using hg) ?_ rfl
    · refine ⟨hah, ((((Below.refl _ _).alloc (by omega) _).alloc (by simp; omega) _).alloc (by simp; omega) _).alloc (by simp; omega) _, .int .i64 0, ?_, 0, rfl, by simp [dmaxs]⟩
      have := Whole.new w0 3 #[.int .i64 0]
      rw [hw0] at this
      exact ((this.alloc _).alloc _).alloc _
    · refine cell_alloc _ (cell_alloc _ ?_)
      have := Whole.new (w0.alloc (.cells #[.int .i64 0] 3)) 62 #[.pointer (some ⟨w.heap.size, 0, none⟩)]
      rw [World.size_alloc, hw0] at this
      exact (this.cell 0).trans rfl
  case assign =>
    intro l x W K hK
    gi_wp2
    exact hK
  case body =>
    rintro l ⟨x, rest, own⟩ W ⟨⟨hA, hB, u, hu, m, rfl, hm⟩, hO⟩
    have hc : W.cell? ⟨w.heap.size + 1, 0, none⟩ = some (.int .i64 m) := (hu.cell 0).trans rfl
    have hf : W.frozen? ⟨w.heap.size + 1, 0, none⟩ = false := hu.frozen 0
    have HM := Lib.hid hm
    have HU := Lib.hid hu
    clear hm hu
    have hC : ∀ m' : Nat, m' = max m x.d → ∀ lb lo ob oo, ∃ k : Nat, (Value.int .i64 m' : Value) = .int .i64 k ∧ max k (dmaxs (rest ++ kids x lb lo ob oo)) = g.deep := fun m' e lb lo ob oo => by
      refine ⟨m', rfl, ?_⟩
      have h1 := HM.out
      have h2 := dmaxs_kids x lb lo ob oo
      rw [dmaxs_append] at h1 ⊢
      simp only [dmaxs] at h1
      omega
    have HC := Lib.hid hC
    clear hC
    gi_wp2
    · exact reads_next (Nat.le_refl _) (by decide) hA hB HU.out hO (HC.out _ (by omega))
    · exact reads_next (Nat.le_refl _) (by decide) hA hB HU.out hO (HC.out _ (by omega))
  case done =>
    rintro D W hD ⟨_, hB, u, hu, m, rfl, hm⟩ hK
    have hc : W.cell? ⟨w.heap.size + 1, 0, none⟩ = some (.int .i64 m) := (hu.cell 0).trans rfl
    have hm' : m = g.deep := by simpa [dmaxs] using hm
    have HM := Lib.hid hm'
    clear hm hm' hu
    gi_wp2
    refine ⟨by simp, .inl ⟨_, _, rfl, run_takeDeferred hK, ?_⟩⟩
    refine ⟨_, results_tmp rfl _ _ _, ?_, ?_⟩
    · rw [← HM.out]; rfl
    · exact hB1.trans ((below_apart hB (by simp at hD; omega) hK _).mono (by omega))
  case stop =>
    rintro D c W _ h _
    exact h.elim
end Go.Proofs.YtjknicljbmakeaaDoor
