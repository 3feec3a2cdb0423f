/- Build: a sound value, of at most 60 pieces. -/
import Derived.Test.YtmmjkhkcffgeiaaDoorOne
namespace Go.Proofs.YtmmjkhkcffgeiaaDoor
open Go Go.RowKit

def BuildOutM (w : World) (e : Ending) (w' : World) : Prop :=
  ∃ (g : GV) (v : Value), e = .returned v ∧ g.val (fun k => w.heap.size ≤ k) w' v ∧ Good 0 g ∧ g.mass ≤ 6000 ∧ Below w.heap.size w w'
theorem one_weight {ts : List GTok} {w w' : World} {e : Ending} (hl : ts.length ≤ 60) (h : OnePost ts 0 w e w') : ∃ (g : GV) (L O : Value) (n : Nat), e = .returned (.tuple #[.agg #[.int .u8 g.kind, .int .i64 g.num, .string g.str, L, O], .int .i64 n]) ∧
    LstV (fun k => w.heap.size ≤ k) w' L g.items ∧ ObjV (fun k => w.heap.size ≤ k) w' O g.keys g.vals ∧ g.mass ≤ 6000 ∧ Good 0 g ∧ Below w.heap.size w w' := by
  obtain ⟨g, L, O, n, e, hL, hO, hg, hn, _, _, hw, hb⟩ := h
  exact ⟨g, L, O, n, e, hL, hO, by omega, hg, hb⟩

set_option maxRecDepth 100000 in
set_option maxHeartbeats 1000000 in
theorem Build_lenM (hi : Nat) (A : Option Addr) (cap : Nat) (ts : List GTok) (w : World) (hcap : ts.length ≤ cap) (hm : cap ≤ maxLen) (hhi : hi ≤ w.heap.size) (hT : Toks hi w A ts)
    (hr : ∀ t ∈ ts, 0 ≤ t.k ∧ t.k ≤ 255 ∧ 0 ≤ t.m ∧ t.m ≤ 255) (hss : ∀ t ∈ ts, t.s.size ≤ 140737488351232) :
    Calls Tryd.prog 16 #[.slice A ts.length cap] w (BuildOutM w) := by
  have hcall : ∀ (o : Obj), Calls Tryd.prog 30 #[.slice A (min ts.length 60) cap, .int .i64 0] (w.alloc o) (OnePost (ts.take 60) 0 (w.alloc o)) := fun o => by
    have hb : Below w.heap.size w (w.alloc o) := (Below.refl _ _).alloc (Nat.le_refl _) _
    have hTk : Toks hi (w.alloc o) A (ts.take 60) := fun hn => by
      obtain ⟨a, rfl, hs, hl, hc⟩ := hT.keep (hb.mono hhi) (Nat.le_refl _) (fun e => hn (by rw [e]; rfl))
      exact ⟨a, rfl, hs, hl, fun i t hi => hc i t (by rw [List.getElem?_take] at hi; split at hi <;> simp_all)⟩
    have := one_any (ts.take 60).length hi A cap (ts.take 60) 0 (w.alloc o) (Nat.le_refl _) (by rw [List.length_take]; omega) hm (by rw [List.length_take]; omega) (by omega) (by simp; omega) hTk (fun t ht => hr t (List.mem_of_mem_take ht)) (fun t ht => hss t (List.mem_of_mem_take ht))
    rw [List.length_take, Nat.min_comm] at this
    exact this
  have HL60 := Lib.hid (show (ts.take 60).length ≤ 60 by rw [List.length_take]; omega)
  unfold maxLen at hm
  have HC := Lib.hid hcall
  clear hcall hT hr hss
  have hz := fun (W : World) (o : Obj) (h : Below (w.heap.size + 1) (w.alloc (.cells #[.int .u8 0, .int .i64 0, .string ⟨#[]⟩, .slice none 0 0, .slice none 0 0] 31)) W) => ((((Whole.new w 31 #[.int .u8 0, .int .i64 0, .string ⟨#[]⟩, .slice none 0 0, .slice none 0 0])).below h (by omega)).alloc o).five
  have HZ := Lib.hid hz
  clear hz
  have fin : ∀ (g : GV) (BL BO : Option Addr) (dL dO : Nat) (W1 : World) (o : Obj), LstV (fun k => w.heap.size + 1 ≤ k) W1 (.slice BL g.items.length dL) g.items → ObjV (fun k => w.heap.size + 1 ≤ k) W1 (.slice BO g.vals.length dO) g.keys g.vals → g.mass ≤ 6000 → Good 0 g →
      Below (w.heap.size + 1) (w.alloc (.cells #[.int .u8 0, .int .i64 0, .string ⟨#[]⟩, .slice none 0 0, .slice none 0 0] 31)) W1 → ∀ a0 a1 a2 a3 a4,
      BuildOutM w (.returned (.agg #[.int .u8 g.kind, .int .i64 g.num, .string g.str, .slice BL g.items.length dL, .slice BO g.vals.length dO])) (put5 (W1.alloc o) w.heap.size a0 a1 a2 a3 a4) := fun g BL BO dL dO W1 o hL hO hw hp hb a0 a1 a2 a3 a4 =>
    ⟨g, _, rfl, GV.val_put5 ⟨_, _, rfl, hL, hO⟩ o a0 a1 a2 a3 a4, hp, hw,
      put5_below ((((Below.refl _ w).alloc (Nat.le_refl _) _).trans (hb.mono (by omega))).alloc (by have := hb.size; simp at this; omega) o) (Nat.le_refl _) _ _ _ _ _⟩
  have FIN := Lib.hid fin
  clear fin
  by_cases h60 : ts.length ≤ 60
  · have e : min ts.length 60 = ts.length := by omega
    rw [e] at HC
    have HL := Lib.hid e
    clear e
    generalize ts.length = n at *
    have hmn : (min (n : Int) 60).toNat = n := by omega
    go_enter Tryd.func16, Tryd.ntmps16
    go_wp2_with (go_at_call 30; refine (HC.out _).mono ?_; rintro e W1 he; obtain ⟨g, L, O, n1, rfl, hL, hO, hw, hp, hb⟩ := one_weight HL60.out he; obtain ⟨BL, dL, rfl⟩ := lst_form hL; obtain ⟨BO, dO, rfl⟩ := obj_form hO; simp only [World.size_alloc] at hL hO hb; have H := Lib.hid (And.intro hL (And.intro hO (And.intro hw hb))); have HPO := Lib.hid hp; clear hL hO hw hp hb he; have q0 := fun o => (HZ.out W1 o H.out.2.2.2).c0; have q1 := fun o => (HZ.out W1 o H.out.2.2.2).c1; have q2 := fun o => (HZ.out W1 o H.out.2.2.2).c2; have q3 := fun o => (HZ.out W1 o H.out.2.2.2).c3; have q4 := fun o => (HZ.out W1 o H.out.2.2.2).c4; have r0 := fun o => (HZ.out W1 o H.out.2.2.2).f0; have r1 := fun o => (HZ.out W1 o H.out.2.2.2).f1; have r2 := fun o => (HZ.out W1 o H.out.2.2.2).f2; have r3 := fun o => (HZ.out W1 o H.out.2.2.2).f3; have r4 := fun o => (HZ.out W1 o H.out.2.2.2).f4)
    refine bodyPost_ret (v := .agg #[.int .u8 g.kind, .int .i64 g.num, .string g.str, .slice BL g.items.length dL, .slice BO g.vals.length dO]) (by simp [results, Tryd.results16, go_sem, q0, q1, q2, q3, q4]) rfl ?_
    exact FIN.out g BL BO dL dO W1 _ H.out.1 H.out.2.1 H.out.2.2.1 HPO.out H.out.2.2.2 _ _ _ _ _
  · have e : min ts.length 60 = 60 := by omega
    rw [e] at HC
    have HL := Lib.hid e
    clear e
    have h60' : 60 < ts.length := by omega
    generalize ts.length = n at *
    have hmn : (min (n : Int) 60).toNat = 60 := by omega
    go_enter Tryd.func16, Tryd.ntmps16
    go_wp2_with (go_at_call 30; refine (HC.out _).mono ?_; rintro e W1 he; obtain ⟨g, L, O, n1, rfl, hL, hO, hw, hp, hb⟩ := one_weight HL60.out he; obtain ⟨BL, dL, rfl⟩ := lst_form hL; obtain ⟨BO, dO, rfl⟩ := obj_form hO; simp only [World.size_alloc] at hL hO hb; have H := Lib.hid (And.intro hL (And.intro hO (And.intro hw hb))); have HPO := Lib.hid hp; clear hL hO hw hp hb he; have q0 := fun o => (HZ.out W1 o H.out.2.2.2).c0; have q1 := fun o => (HZ.out W1 o H.out.2.2.2).c1; have q2 := fun o => (HZ.out W1 o H.out.2.2.2).c2; have q3 := fun o => (HZ.out W1 o H.out.2.2.2).c3; have q4 := fun o => (HZ.out W1 o H.out.2.2.2).c4; have r0 := fun o => (HZ.out W1 o H.out.2.2.2).f0; have r1 := fun o => (HZ.out W1 o H.out.2.2.2).f1; have r2 := fun o => (HZ.out W1 o H.out.2.2.2).f2; have r3 := fun o => (HZ.out W1 o H.out.2.2.2).f3; have r4 := fun o => (HZ.out W1 o H.out.2.2.2).f4)
    refine bodyPost_ret (v := .agg #[.int .u8 g.kind, .int .i64 g.num, .string g.str, .slice BL g.items.length dL, .slice BO g.vals.length dO]) (by simp [results, Tryd.results16, go_sem, q0, q1, q2, q3, q4]) rfl ?_
    exact FIN.out g BL BO dL dO W1 _ H.out.1 H.out.2.1 H.out.2.2.1 HPO.out H.out.2.2.2 _ _ _ _ _
def BuildOut (w : World) (e : Ending) (w' : World) : Prop :=
  ∃ (g : GV) (v : Value), e = .returned v ∧ g.val (fun k => w.heap.size ≤ k) w' v ∧ Good 0 g ∧ g.weight ≤ 6000 ∧ Below w.heap.size w w'
theorem BuildOutM.plain {w : World} {e : Ending} {w' : World} (h : BuildOutM w e w') : BuildOut w e w' := by
  obtain ⟨g, v, h1, h2, h3, h4, h5⟩ := h
  exact ⟨g, v, h1, h2, h3, Nat.le_trans (weight_mass g) h4, h5⟩
theorem Build_len (hi : Nat) (A : Option Addr) (cap : Nat) (ts : List GTok) (w : World) (hcap : ts.length ≤ cap) (hm : cap ≤ maxLen) (hhi : hi ≤ w.heap.size) (hT : Toks hi w A ts)
    (hr : ∀ t ∈ ts, 0 ≤ t.k ∧ t.k ≤ 255 ∧ 0 ≤ t.m ∧ t.m ≤ 255) (hss : ∀ t ∈ ts, t.s.size ≤ 140737488351232) :
    Calls Tryd.prog 16 #[.slice A ts.length cap] w (BuildOut w) := (Build_lenM hi A cap ts w hcap hm hhi hT hr hss).mono fun _ _ h => h.plain
theorem Build_any (hi : Nat) (A : Option Addr) (cap : Nat) (ts : List GTok) (w : World) (hcap : ts.length ≤ cap) (hm : cap ≤ maxLen) (_h200 : ts.length ≤ 200) (hhi : hi ≤ w.heap.size) (hT : Toks hi w A ts)
    (hr : ∀ t ∈ ts, 0 ≤ t.k ∧ t.k ≤ 255 ∧ 0 ≤ t.m ∧ t.m ≤ 255) (hss : ∀ t ∈ ts, t.s.size ≤ 140737488351232) :
    Calls Tryd.prog 16 #[.slice A ts.length cap] w (BuildOut w) := Build_len hi A cap ts w hcap hm hhi hT hr hss
end Go.Proofs.YtmmjkhkcffgeiaaDoor
