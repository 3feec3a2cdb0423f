/- Weight, the program's. -/
import Derived.Test.YtjknicljbmakeaaDoorRead
import Derived.Sort.CutIn
namespace Go.Proofs.YtjknicljbmakeaaDoor
open Go Go.RowKit Go.Shelf
attribute [local go_sem] Oper.semAt_some


def wsum : List Item → Nat
  | [] => 0
  | x :: r => x.g.weight + wsum r
theorem wsum_append (a b : List Item) : wsum (a ++ b) = wsum a + wsum b := by
  induction a with
  | nil => simp [wsum]
  | cons x r ih => simp [wsum, ih]; omega
theorem wsum_items {d b step : Nat} : ∀ {off : Nat} {l : List GV}, wsum (itemsAt d b step off l) = GV.weights l
  | _, [] => by simp [itemsAt, wsum, GV.weights]
  | _, _ :: r => by simp [itemsAt, wsum, GV.weights, wsum_items (l := r)]
def ksum (ks : List ByteArray) : Nat := (ks.map (·.size)).sum
theorem ksum_take (ks : List ByteArray) (k : Nat) (h : k < ks.length) : ksum (ks.take (k + 1)) = ksum (ks.take k) + ks[k].size := by
  unfold ksum; rw [List.take_succ_eq_append_getElem h, List.map_append, List.sum_append]; simp
theorem ksum_le (ks : List ByteArray) (k : Nat) : ksum (ks.take k) ≤ ksum ks := by
  have : ksum (ks.take k ++ ks.drop k) = ksum (ks.take k) + ksum (ks.drop k) := by unfold ksum; rw [List.map_append, List.sum_append]
  rw [List.take_append_drop] at this
  omega
theorem weight_eq (x : Item) (lb lo ob oo : Nat) : x.g.weight = 1 + x.g.str.size + ksum x.g.keys + wsum (kids x lb lo ob oo) := by
  unfold kids
  rw [wsum_append, wsum_items, wsum_items]
  cases x.g with | mk k n s l ks ov => simp only [GV.weight, GV.str, GV.items, GV.keys, GV.vals, ksum]; omega
theorem weight_le {x : Item} : ∀ {S : List Item}, x ∈ S → x.g.weight ≤ wsum S
  | [], h => by cases h
  | y :: r, h => by
    simp only [wsum]
    rcases List.mem_cons.1 h with rfl | h
    · omega
    · have := weight_le h; omega
/-- Between the rounds of the loop over the keys. -/
def KeyRel (n0 bm D m : Nat) (w0 W : World) (own : List (Nat × Array Value)) (ks : List ByteArray) (i : Value) (wr : World) : Prop :=
  ∃ k : Nat, i = .int .i64 k ∧ k ≤ ks.length ∧ Whole wr bm 3 #[.int .i64 ((m + ksum (ks.take k) : Nat) : Int)] ∧ Below n0 w0 wr ∧ Owned 84 own wr ∧ KeepsFrom D W wr
theorem size_le_weight : ∀ (g : GV), g.size ≤ g.weight := by
  have h : (∀ g : GV, g.size ≤ g.weight) ∧ (∀ l : List GV, GV.sizes l ≤ GV.weights l) := by
    refine ⟨fun g => ?_, fun l => ?_⟩
    · exact GV.rec (motive_1 := fun g => g.size ≤ g.weight) (motive_2 := fun l => GV.sizes l ≤ GV.weights l) (fun k n s l ks ov h1 h2 => by simp only [GV.size, GV.weight]; omega) (by simp [GV.sizes]) (fun a r h1 h2 => by simp only [GV.sizes, GV.weights]; omega) g
    · exact GV.rec_1 (motive_1 := fun g => g.size ≤ g.weight) (motive_2 := fun l => GV.sizes l ≤ GV.weights l) (fun k n s l ks ov h1 h2 => by simp only [GV.size, GV.weight]; omega) (by simp [GV.sizes]) (fun a r h1 h2 => by simp only [GV.sizes, GV.weights]; omega) l
  exact h.1

set_option maxRecDepth 100000 in
set_option maxHeartbeats 4000000 in
theorem val_Weight (ok : Nat → Prop) (v : Value) (g : GV) (w : World) (hv : g.val ok w v) (hg : g.weight ≤ 1000000000) :
    Calls Tryd.prog 22 #[v] w fun e w' => e = .returned (.int .i64 g.weight) ∧ Below w.heap.size w w' := by
  obtain ⟨L, O, rfl, hL, hO⟩ := hv
  obtain ⟨AL, cL, rfl⟩ := lst_form hL
  obtain ⟨AO, cO, rfl⟩ := obj_form hO
  refine (callsIn_wide (n := 9)).1 ?_
  refine callsIn_of_wp_marks Tryd.func22 rfl trivial ?_ rfl
  simp only [Tryd.ntmps22, List.size_toArray, List.length_cons, List.length_nil, Nat.reduceAdd, Nat.reduceSub, Array.replicate_succ, Array.replicate_zero, List.push_toArray, List.append_toArray, List.nil_append, List.cons_append]
  gi_wp2_with (refine ⟨trivial, ?_⟩; gi_at_call 40; refine (callsIn_wide.2 (call_all _ _)).mono ?_; rintro e w' ⟨rfl, rfl⟩)
  have hah := ahead_start hL hO
  have hw0 : (w.alloc (.cells #[.int .u8 g.kind, .int .i64 g.num, .string g.str, .slice AL g.items.length cL, .slice AO g.vals.length cO] 28)).heap.size = w.heap.size + 1 := by simp
  have hB1 : Below w.heap.size w (w.alloc (.cells #[.int .u8 g.kind, .int .i64 g.num, .string g.str, .slice AL g.items.length cL, .slice AO g.vals.length cO] 28)) := (Below.refl _ _).alloc (Nat.le_refl _) _
  obtain ⟨w0, hw0e⟩ : ∃ w0, w0 = w.alloc (.cells #[.int .u8 g.kind, .int .i64 g.num, .string g.str, .slice AL g.items.length cL, .slice AO g.vals.length cO] 28) := ⟨_, rfl⟩
  rw [← hw0e] at hah hw0 hB1 ⊢
  clear hw0e hL hO
  have hJb : ∀ (base : Nat), w.heap.size + 1 ≤ base → ∀ S X Y, Reads1 (w.heap.size + 1) w0 (w.heap.size + 1) 3 (fun S u => ∃ m : Nat, u = .int .i64 m ∧ m + wsum S = g.weight) S X → But 84 base X Y → Reads1 (w.heap.size + 1) w0 (w.heap.size + 1) 3 (fun S u => ∃ m : Nat, u = .int .i64 m ∧ m + wsum S = g.weight) S Y :=
    fun base hb S X Y h k => h.but hb (by omega) (by decide) S X Y k
  refine range_law rfl (by decide) (gf := 56) (lb := #[.pointer (some ⟨w.heap.size + 1 + 1, 0, none⟩)]) rfl trivial (enters_of Tryd.func56 (by kernel_rfl) rfl) Due.encs (fun _ => rfl)
    (Due.Pre (Reads1 (w.heap.size + 1) w0 (w.heap.size + 1) 3 (fun S u => ∃ m : Nat, u = .int .i64 m ∧ m + wsum S = g.weight)))
    (Due.Post (Reads1 (w.heap.size + 1) w0 (w.heap.size + 1) 3 (fun S u => ∃ m : Nat, u = .int .i64 m ∧ m + wsum S = g.weight)))
    (fun _ _ => False) (Reads1 (w.heap.size + 1) w0 (w.heap.size + 1) 3 (fun S u => ∃ m : Nat, u = .int .i64 m ∧ m + wsum S = g.weight) [])
    (pre_apart fun S => Reads1.apart (by simp; omega) S) (post_apart fun S => Reads1.apart (by simp; omega) S) (fun _ _ _ _ _ _ _ _ _ h => h) (Reads1.apart (by simp; omega) _) ?seq
    (fun x => { tmps := #[.agg #[.int .u8 g.kind, .int .i64 g.num, .string g.str, .slice AL g.items.length cL, .slice AO g.vals.length cO], .pointer (some ⟨w.heap.size, 0, none⟩), .int .i64 0, .pointer (some ⟨w.heap.size + 1, 0, none⟩), undef, .pointer (some ⟨x.1.b, x.1.off, none⟩), undef, .func (.func 56) #[] #[.pointer (some ⟨w.heap.size + 1 + 1, 0, none⟩)], .int .i64 x.1.d, .pointer (some ⟨x.1.b, x.1.off, none⟩), undef, undef, undef, undef, undef, undef, undef, undef, undef, undef, undef, undef, undef, undef, undef, undef, undef, undef, undef, undef, undef, undef, undef, undef, undef, undef, undef, undef, undef], defers := [] }) ?assign ?body ?done ?stop
  case seq =>
    rintro l W rfl ⟨o, o', ho, ho', rfl⟩
    refine all1_dues 8 (by decide) _ 1000000000 (Nat.le_refl _) _ _ (hJb _ (by simp; omega)) (w.heap.size + 1 + 1) ⟨0, w.heap.size, 0, g⟩ _ ?_ (by have := size_le_weight g; simp; omega) ?_ rfl
    · refine ⟨hah, ((((Below.refl _ _).alloc (by omega) _).alloc (by simp; omega) _).alloc (by simp; omega) _).alloc (by simp; omega) _, .int .i64 0, ?_, 0, rfl, by simp [wsum]⟩
      have := Whole.new w0 3 #[.int .i64 0]
      rw [hw0] at this
      exact ((this.alloc _).alloc _).alloc _
    · refine cell_alloc _ (cell_alloc _ ?_)
      have := Whole.new (w0.alloc (.cells #[.int .i64 0] 3)) 62 #[.pointer (some ⟨w.heap.size, 0, none⟩)]
      rw [World.size_alloc, hw0] at this
      exact (this.cell 0).trans rfl
  case assign =>
    intro l x W K hK
    gi_wp2
    exact hK
  case body =>
    rintro l ⟨x, rest, own⟩ W ⟨⟨hA, hB, u, hu, m, rfl, hm⟩, hO⟩
    have hc : W.cell? ⟨w.heap.size + 1, 0, none⟩ = some (.int .i64 m) := (hu.cell 0).trans rfl
    have hf : W.frozen? ⟨w.heap.size + 1, 0, none⟩ = false := hu.frozen 0
    have HM := Lib.hid hm
    have HU := Lib.hid hu
    clear hm hu
    replace hA : Ahead (w.heap.size + 1) w0 (rest ++ [x]) := hA
    obtain ⟨A1, c1, A2, c2, lb, lo, ob, oo, hx0, hx1, hx2, hx3, hx4, hLL, hOO, hkid, hah2⟩ := hA.now hB
    have hwx := weight_eq x lb lo ob oo
    have hmx := HM.out
    rw [wsum_append] at hmx
    simp only [wsum] at hmx
    have b1 : m + x.g.weight ≤ 1000000000 := by omega
    have b2 : 1 + x.g.str.size + ksum x.g.keys ≤ x.g.weight := by omega
    clear hwx hmx
    generalize hsz : x.g.str.size = sz at *
    have e1 : IntKind.i64.wrap (1 + (sz : Int)) = 1 + (sz : Int) := IntWalk.i64_in _ (by omega)
    have e2 : IntKind.i64.wrap ((m : Int) + (1 + (sz : Int))) = (m : Int) + (1 + (sz : Int)) := IntWalk.i64_in _ (by omega)
    have hmix : Tryd.prog.follows .mixedOrders = true := by kernel_rfl
    have hst : ∀ (j : Int), Whole (W.setCell ⟨w.heap.size + 1, 0, none⟩ (.int .i64 j)).drew (w.heap.size + 1) 3 #[.int .i64 j] := fun j => HU.out.put 0 _
    have hst2 : ∀ (j : Int), Below (w.heap.size + 1) w0 (W.setCell ⟨w.heap.size + 1, 0, none⟩ (.int .i64 j)).drew ∧ Owned 84 own (W.setCell ⟨w.heap.size + 1, 0, none⟩ (.int .i64 j)).drew ∧ KeepsFrom (w0.heap.size + 1 + 1) W (W.setCell ⟨w.heap.size + 1, 0, none⟩ (.int .i64 j)).drew := fun j =>
      ⟨(hB.setCell (Nat.le_refl _) _).drew, hO.far HU.out (by decide) 0 _, ((KeepsOthers.setCell _ _ _).trans (KeepsOthers.drew _)).from _⟩
    have HST := Lib.hid (And.intro hst hst2)
    clear hst hst2
    dsimp only
    gi_upto_region 4 with (fail)
    gi_cut [] from 10 (fun wx => Whole wx (w.heap.size + 1) 3 #[.int .i64 ((m : Int) + (1 + (sz : Int)))] ∧ Below (w.heap.size + 1) w0 wx ∧ Owned 84 own wx ∧ KeepsFrom (w0.heap.size + 1 + 1) W wx)
    case first =>
      gi_region_with_o (fail)
      all_goals
        gi_wp2
        go_meet
        case rel => exact ⟨HST.out.1 _, HST.out.2 _⟩
    case rest =>
      clear hx0 hx1 hx2 hx3 hx4 HST hc hf
      obtain ⟨hcw, hcB, hcO, hcK⟩ := hcut
      obtain ⟨A1', c1', A2', c2', lb', lo', ob', oo', hx0, hx1, hx2, hx3, hx4, _, hOO', hkid', hah2'⟩ := hA.now hcB
      have hkl := hOO'.1
      have hwx := Lib.hid (weight_eq x lb' lo' ob' oo')
      have HFORM := Lib.hid hOO'.form
      clear hkid hah2 hLL hOO hOO'
      have hgl : x.g.keys.length ≤ 1000000000 := by have h1 := len_sizes x.g.vals; have h2 := size_eq x.g; have h3 := size_le_weight x.g; omega
      have HKL := Lib.hid hkl
      have HSZ := Lib.hid hsz
      have hks2 : m + 1 + sz + ksum x.g.keys ≤ 1000000000 := by omega
      have hcw' : Whole wc (w.heap.size + 1) 3 #[.int .i64 ((m + 1 + sz + ksum (x.g.keys.take 0) : Nat) : Int)] := by
        have e : ((m + 1 + sz + ksum (x.g.keys.take 0) : Nat) : Int) = (m : Int) + (1 + (sz : Int)) := by simp [ksum]; omega
        rw [e]; exact hcw
      have HCW := Lib.hid hcw'
      have HKID := Lib.hid (And.intro hkid' hah2')
      clear hcw hcw' hkl hsz hkid' hah2'
      gi_wp2
      gi_loopw [23] (KeyRel (w.heap.size + 1) (w.heap.size + 1) (w0.heap.size + 1 + 1) (m + 1 + sz) w0 W own x.g.keys) (fun i _ => x.g.keys.length - (intOf i).toNat)
      case atStart => exact ⟨0, rfl, Nat.zero_le _, HCW.out, hcB, hcO, hcK⟩
      case round =>
        obtain ⟨k, rfl, hk, hwb, hrB, hrO, hrK⟩ := hrel
        by_cases hlt : k < x.g.keys.length
        · have hlt2 : k < x.g.vals.length := by have := HKL.out; omega
          obtain ⟨A3, c3, e3, _, _, hf3⟩ := HFORM.out
          obtain ⟨rfl, rfl⟩ : A2' = A3 ∧ c2' = c3 := by simpa using e3
          obtain ⟨bk, okk, rfl, hKk, hks, _⟩ := hf3 (by intro e; rw [e] at hlt2; simp at hlt2)
          have hkc := (hrB.cell (p := ⟨bk, okk + k * 6, none⟩) hKk.1).trans (hks.get (List.getElem?_eq_getElem hlt))
          obtain ⟨A1r, c1r, A2r, c2r, _, _, _, _, _, _, _, _, hy4, _, _, _, _⟩ := hA.now hrB
          have hbx := (hA.ats x (by simp)).1
          have hx4' : wr.cell? ⟨x.b, x.off + 4, none⟩ = some (.slice (some ⟨bk, okk, none⟩) x.g.vals.length c2') := by
            rw [hrB.cell (p := ⟨x.b, x.off + 4, none⟩) hbx, ← hcB.cell (p := ⟨x.b, x.off + 4, none⟩) hbx]; exact hx4
          clear hy4 hks hKk e3
          have HT := Lib.hid (ksum_take x.g.keys k hlt)
          have hle := ksum_le x.g.keys (k + 1)
          rw [HT.out] at hle
          have hc0 : wr.cell? ⟨w.heap.size + 1, 0, none⟩ = some (.int .i64 ((m + 1 + sz + ksum (x.g.keys.take k) : Nat) : Int)) := (hwb.cell 0).trans rfl
          have hf0 : wr.frozen? ⟨w.heap.size + 1, 0, none⟩ = false := hwb.frozen 0
          have HWB := Lib.hid hwb
          clear hwb
          generalize hkz : x.g.keys[k].size = kz at *
          generalize hmk : m + 1 + sz + ksum (x.g.keys.take k) = mk at *
          have hmk2 : mk + kz ≤ 1000000000 := by omega
          have HMK := Lib.hid hmk
          have HKZ := Lib.hid hkz
          clear hmk
          have e3 : IntKind.i64.wrap ((mk : Int) + (kz : Int)) = (mk : Int) + (kz : Int) := IntWalk.i64_in _ (by omega)
          gi_wp2
          gi_region_with_o (fail)
          all_goals
            gi_wp2
            go_roundw
            case rel =>
              refine ⟨k + 1, by go_num, by omega, ?_, (hrB.setCell (Nat.le_refl _) _).drew, hrO.far HWB.out (by decide) 0 _, hrK.trans (((KeepsOthers.setCell _ _ _).trans (KeepsOthers.drew _)).from _)⟩
              have e : ((m + 1 + sz + ksum (x.g.keys.take (k + 1)) : Nat) : Int) = (mk : Int) + (kz : Int) := by rw [HT.out, ← HMK.out]; push_cast; omega
              rw [e]
              exact HWB.out.put 0 _
            case measure => simp [intOf]; omega
        · have hk2 : k = x.g.keys.length := by omega
          subst hk2
          have HE := Lib.hid hwb
          have hnl : ¬ x.g.keys.length < x.g.vals.length := by have := HKL.out; omega
          clear hwb
          gi_wp2
          refine ⟨(by simpa [World.size_alloc] using hrK), hrO, lb', lo', ob', oo', HKID.out.1 _ hrB, ⟨HKID.out.2, hrB, _, HE.out, _, rfl, ?_⟩⟩
          show m + 1 + sz + ksum (x.g.keys.take x.g.keys.length) + wsum (rest ++ kids x lb' lo' ob' oo') = g.weight
          have h1 := HM.out
          have h2 := hwx.out
          have h3 := HSZ.out
          rw [wsum_append] at h1 ⊢
          simp only [wsum] at h1
          rw [List.take_length]
          omega
  case done =>
    rintro D W hD ⟨_, hB, u, hu, m, rfl, hm⟩ hK
    have hc : W.cell? ⟨w.heap.size + 1, 0, none⟩ = some (.int .i64 m) := (hu.cell 0).trans rfl
    have hm' : m = g.weight := by simpa [wsum] using hm
    have HM := Lib.hid hm'
    clear hm hm' hu
    gi_wp2
    refine ⟨by simp, .inl ⟨_, _, rfl, run_takeDeferred hK, ?_⟩⟩
    refine ⟨_, results_tmp rfl _ _ _, ?_, ?_⟩
    · rw [← HM.out]; rfl
    · exact hB1.trans ((below_apart hB (by simp at hD; omega) hK _).mono (by omega))
  case stop =>
    rintro D c W _ h _
    exact h.elim
end Go.Proofs.YtjknicljbmakeaaDoor
