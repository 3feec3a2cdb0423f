/- json's writer: values, lists, objects. -/
import Derived.Test.YtmmjkhkcffgeiaaDoorWText
import Derived.Test.YtmmjkhkcffgeiaaDoorBaseA
import Derived.Test.YtmmjkhkcffgeiaaDoorLaysB
import Derived.Lib.AppendIntMem
namespace Go.Proofs.YtmmjkhkcffgeiaaDoor
open Go Go.RowKit Go.Shelf

theorem item_atB {B : Nat} {w : World} {b o : Nat} {l : List GV} (hE : GV.els (fun j => j < B) w b 5 o l) (hK : Kind w (fun j => j < B) b 31) {k : Nat} (hk : k < l.length) : ∃ A1 c1 A2 c2,
    (∀ W, Below B w W → W.cell? ⟨b, o + k * 5, none⟩ = some (.int .u8 l[k].kind) ∧ W.cell? ⟨b, o + k * 5 + 1, none⟩ = some (.int .i64 l[k].num) ∧ W.cell? ⟨b, o + k * 5 + 2, none⟩ = some (.string l[k].str) ∧
      W.cell? ⟨b, o + k * 5 + 3, none⟩ = some (.slice A1 l[k].items.length c1) ∧ W.cell? ⟨b, o + k * 5 + 4, none⟩ = some (.slice A2 l[k].vals.length c2)) ∧
    (∀ W, Below B w W → l[k].val (fun j => j < B) W (.agg #[.int .u8 l[k].kind, .int .i64 l[k].num, .string l[k].str, .slice A1 l[k].items.length c1, .slice A2 l[k].vals.length c2])) := by
  have h := GV.els_get hE (List.getElem?_eq_getElem hk)
  obtain ⟨L, O, h0, h1, h2, h3, h4, hL, hO⟩ := GV.at_iff.1 h
  obtain ⟨A1, c1, rfl⟩ := lst_form hL
  obtain ⟨A2, c2, rfl⟩ := obj_form hO
  have hc : ∀ W, Below B w W → ∀ j v, w.cell? ⟨b, j, none⟩ = some v → W.cell? ⟨b, j, none⟩ = some v := fun W hb j v hv => (hb.cell (p := ⟨b, j, none⟩) hK.1).trans hv
  exact ⟨A1, c1, A2, c2, fun W hb => ⟨hc W hb _ _ h0, hc W hb _ _ h1, hc W hb _ _ h2, hc W hb _ _ h3, hc W hb _ _ h4⟩,
    fun W hb => ⟨_, _, rfl, hL.keep (fun j hj _ => hb.block j hj) (fun j hj _ => hj), hO.keep (fun j hj _ => hb.block j hj) (fun j hj _ => hj)⟩⟩
theorem field_atB {B : Nat} {w : World} {b o : Nat} {ks : List ByteArray} {l : List GV} (hks : KeysAt w b o ks) (hE : GV.els (fun j => j < B) w b 6 (o + 1) l) (hK : Kind w (fun j => j < B) b 45) {k : Nat} (hk : k < l.length) (hk' : k < ks.length) : ∃ A1 c1 A2 c2,
    (∀ W, Below B w W → W.cell? ⟨b, o + k * 6, none⟩ = some (.string ks[k]) ∧ W.cell? ⟨b, o + k * 6 + 1, none⟩ = some (.int .u8 l[k].kind) ∧ W.cell? ⟨b, o + k * 6 + 1 + 1, none⟩ = some (.int .i64 l[k].num) ∧ W.cell? ⟨b, o + k * 6 + 1 + 2, none⟩ = some (.string l[k].str) ∧
      W.cell? ⟨b, o + k * 6 + 1 + 3, none⟩ = some (.slice A1 l[k].items.length c1) ∧ W.cell? ⟨b, o + k * 6 + 1 + 4, none⟩ = some (.slice A2 l[k].vals.length c2)) ∧
    (∀ W, Below B w W → l[k].val (fun j => j < B) W (.agg #[.int .u8 l[k].kind, .int .i64 l[k].num, .string l[k].str, .slice A1 l[k].items.length c1, .slice A2 l[k].vals.length c2])) := by
  have h := GV.els_get hE (List.getElem?_eq_getElem hk)
  have hkey := hks.get (List.getElem?_eq_getElem hk')
  rw [show o + 1 + k * 6 = o + k * 6 + 1 by omega] at h
  obtain ⟨L, O, h0, h1, h2, h3, h4, hL, hO⟩ := GV.at_iff.1 h
  obtain ⟨A1, c1, rfl⟩ := lst_form hL
  obtain ⟨A2, c2, rfl⟩ := obj_form hO
  have hc : ∀ W, Below B w W → ∀ j v, w.cell? ⟨b, j, none⟩ = some v → W.cell? ⟨b, j, none⟩ = some v := fun W hb j v hv => (hb.cell (p := ⟨b, j, none⟩) hK.1).trans hv
  exact ⟨A1, c1, A2, c2, fun W hb => ⟨hc W hb _ _ hkey, hc W hb _ _ h0, hc W hb _ _ h1, hc W hb _ _ h2, hc W hb _ _ h3, hc W hb _ _ h4⟩,
    fun W hb => ⟨_, _, rfl, hL.keep (fun j hj _ => hb.block j hj) (fun j hj _ => hj), hO.keep (fun j hj _ => hb.block j hj) (fun j hj _ => hj)⟩⟩

/-- The table of powers of ten lies below B, and stays there. -/
def TenB (B : Nat) (W : World) : Prop := Lib.TabBelow Tryd.prog B W "internal/strconv.uint64pow10" .u64 Lib.pow10Tab
theorem TenB.later {B : Nat} {W W' : World} (h : TenB B W) (hb : Below B W W') : TenB B W' := fun _ k => h _ (hb.trans k)
def WV (g : GV) : Prop := ∀ (B b : Nat) (bs : List Value) (v : Value) (W : World), g.val (fun k => k < B) W v → Bld B b bs W → TenB B W → bs.length + 32 * g.weight + 8 ≤ 140737488355328 →
  Calls Tryd.prog 21 #[.pointer (some ⟨b, 0, none⟩), v] W (WPost B b (bs ++ Lib.byteCells g.enc) W)
theorem rss_iff : ∀ (l : List GV), GV.RSs l ↔ ∀ x ∈ l, GV.RS x
  | [] => by simp [GV.RSs]
  | g :: r => by simp [GV.RSs, rss_iff r]
theorem wtake : ∀ (l : List GV) (k : Nat) (hk : k < l.length), GV.weights (l.take k) + l[k].weight ≤ GV.weights l
  | g :: r, 0, _ => by simp [GV.weights]
  | g :: r, k + 1, hk => by
    have := wtake r k (by simpa using hk)
    simp only [List.take_succ_cons, GV.weights, List.getElem_cons_succ]
    omega
theorem wtake_le : ∀ (l : List GV) (k : Nat), GV.weights (l.take k) ≤ GV.weights l
  | [], k => by simp
  | g :: r, 0 => by simp [GV.weights]
  | g :: r, k + 1 => by
    have := wtake_le r k
    simp only [List.take_succ_cons, GV.weights]
    omega
theorem keys_take : ∀ (ks : List ByteArray) (k : Nat) (hk : k < ks.length), ((ks.take k).map (·.size)).sum + ks[k].size ≤ (ks.map (·.size)).sum
  | g :: r, 0, _ => by simp
  | g :: r, k + 1, hk => by
    have := keys_take r k (by simpa using hk)
    simp only [List.take_succ_cons, List.map_cons, List.sum_cons, List.getElem_cons_succ]
    omega
theorem keys_take_le : ∀ (ks : List ByteArray) (k : Nat), ((ks.take k).map (·.size)).sum ≤ (ks.map (·.size)).sum
  | [], k => by simp
  | g :: r, 0 => by simp
  | g :: r, k + 1 => by
    have := keys_take_le r k
    simp only [List.take_succ_cons, List.map_cons, List.sum_cons]
    omega
theorem encs_take_succ (l : List GV) (k : Nat) (hk : k < l.length) : GV.encs true (l.take (k + 1)) = GV.encs true (l.take k) ++ ((if k = 0 then [] else [44]) ++ l[k].enc) := by
  rw [List.take_succ_eq_append_getElem hk, encs_snoc]
  congr 2
  by_cases h : k = 0
  · subst h; simp
  · rw [if_neg h, if_neg]
    simp only [Bool.true_and, List.isEmpty_iff]
    intro e
    have := congrArg List.length e
    rw [List.length_take, List.length_nil] at this
    omega
theorem encFs_take_succ (ks : List ByteArray) (l : List GV) (k : Nat) (hkl : ks.length = l.length) (hk : k < l.length) (hk' : k < ks.length) : GV.encFs true (ks.take (k + 1)) (l.take (k + 1)) = GV.encFs true (ks.take k) (l.take k) ++ ((if k = 0 then [] else [44]) ++ (encText ks[k].data.toList ++ 58 :: l[k].enc)) := by
  rw [List.take_succ_eq_append_getElem hk, List.take_succ_eq_append_getElem hk', encFs_snoc _ _ _ _ _ (by simp [hkl])]
  congr 2
  by_cases h : k = 0
  · subst h; simp
  · rw [if_neg h, if_neg]
    simp only [Bool.true_and, List.isEmpty_iff]
    intro e
    have := congrArg List.length e
    rw [List.length_take, List.length_nil] at this
    omega

/-- What has been written of a list. -/
def ListRel (B b : Nat) (bs : List Value) (l : List GV) (W : World) (i : Value) (wr : World) : Prop :=
  ∃ k : Nat, i = .int .i64 k ∧ k ≤ l.length ∧ BldAt B b (bs ++ Lib.byteCells (91 :: GV.encs true (l.take k))) wr ∧ Wr B b W wr

set_option maxHeartbeats 4000000 in
set_option maxRecDepth 100000 in
theorem w_list (l : List GV) (hih : ∀ x ∈ l, WV x) (hRS : GV.RSs l) (B b : Nat) (bs : List Value) (L : Value) (W : World) (hL : LstV (fun k => k < B) W L l) (h : Bld B b bs W) (hT : TenB B W) (hlen : bs.length + 32 * GV.weights l + 40 ≤ 140737488355328) :
    Calls Tryd.prog 40 #[.pointer (some ⟨b, 0, none⟩), L] W (WPost B b (bs ++ Lib.byteCells (91 :: (GV.encs true l ++ [93]))) W) := by
  have H1 := Lib.hid (bld_byte B b bs 91 W h (by omega))
  obtain ⟨A, c, rfl, hc1, hc2, hf⟩ := hL.form
  have HF := Lib.hid hf
  have HT := Lib.hid hT
  have HI := Lib.hid hih
  have HRS := Lib.hid hRS
  clear h hf hL hT hih hRS
  unfold maxLen at hc2
  go_enter Tryd.func40, Tryd.ntmps40
  go_wp2_with (go_at_call 53; refine H1.out.mono ?_; rintro e W1 ⟨rfl, h1⟩; have K1 := Lib.hid h1; clear h1)
  go_loopw [12] (ListRel B b bs l W) (fun i _ => l.length - (intOf i).toNat)
  case atStart => exact ⟨0, rfl, Nat.zero_le _, by simpa [encs_nil, Lib.byteCells] using K1.out.1, K1.out.2⟩
  case round =>
    obtain ⟨k, rfl, hk, hb, hw⟩ := hrel
    have HR := Lib.hid (And.intro hb hw)
    have hl := encs_len (l.take k) true ((rss_iff _).2 fun x hx => (rss_iff l).1 HRS.out x (List.mem_of_mem_take hx))
    have hl2 : (bs ++ Lib.byteCells (91 :: GV.encs true (l.take k))).length = bs.length + 1 + (GV.encs true (l.take k)).length := by
      rw [List.length_append, Lib.byteCells_length, List.length_cons]; omega
    have hl3 := wtake_le l k
    have hb0 : B ≤ b := hb.1
    have hbl : b < wr.heap.size := hb.lt
    by_cases hlt : k < l.length
    · obtain ⟨b', o', rfl, hK, hE⟩ := HF.out (by intro e; rw [e] at hlt; simp at hlt)
      obtain ⟨A1, c1, A2, c2, hcells, hval⟩ := item_atB hE hK hlt
      obtain ⟨q0, q1, q2, q3, q4⟩ := hcells wr hw.below
      have hl4 := wtake l k hlt
      have HC := Lib.hid (fun o => w_comma B b _ k (wr.alloc o) (bldAt_alloc hb o) (by rw [hl2]; omega))
      have hl5 : ((bs ++ Lib.byteCells (91 :: GV.encs true (l.take k))) ++ Lib.byteCells (if k = 0 then [] else [44])).length ≤ bs.length + 1 + (GV.encs true (l.take k)).length + 1 := by
        rw [List.length_append, hl2, Lib.byteCells_length]; split <;> simp
      have HV := Lib.hid (fun (W2 : World) (h2 : BldAt B b ((bs ++ Lib.byteCells (91 :: GV.encs true (l.take k))) ++ Lib.byteCells (if k = 0 then [] else [44])) W2) (h3 : Wr B b W W2) => HI.out l[k] (List.getElem_mem hlt) B b _ _ W2 (hval W2 h3.below) (.inr h2) (HT.out.later h3.below) (by omega))
      have HE := Lib.hid (encs_take_succ l k hlt)
      have hbs : B ≤ wr.heap.size := by omega
      clear hb hw hl hl2 hl3 hl4 hl5 hcells hval hE hK
      generalize l[k] = x at *
      go_wp2_with (first
        | (go_at_call 55; refine (HC.out _).mono ?_; rintro e W2 ⟨rfl, h2, h3⟩; have hx := h3.whole (Whole.new wr _ _) (by omega) (by decide); obtain ⟨z0, z1, z2, z3, z4, _⟩ := hx.five; have K2 := Lib.hid (And.intro h2 ((HR.out.2.alloc hbs _).trans h3)); clear h2 h3 hx)
        | (go_at_call 21; refine (HV.out _ K2.out.1 K2.out.2).mono ?_; rintro e W3 ⟨rfl, h3⟩; have K3 := Lib.hid h3; clear h3))
      go_roundw
      case rel => exact ⟨k + 1, by go_num, by omega, by rw [HE.out, ← List.cons_append, byteCells_app, byteCells_app, ← List.append_assoc, ← List.append_assoc]; exact K3.out.1, K2.out.2.trans K3.out.2⟩
      case measure => simp [intOf]; omega
    · have hke : k = l.length := by omega
      subst hke
      have HC := Lib.hid (bld_byte B b _ 93 wr (.inr hb) (by rw [hl2]; omega))
      clear hb hw hl hl2 hl3
      go_wp2_with (go_at_call 53; refine HC.out.mono ?_; rintro e W2 ⟨rfl, h2⟩; have K2 := Lib.hid h2; clear h2)
      go_end0
      refine ⟨rfl, ?_, HR.out.2.trans K2.out.2⟩
      have := K2.out.1
      rw [List.take_length] at this
      simpa [Lib.byteCells] using this
end Go.Proofs.YtmmjkhkcffgeiaaDoor
