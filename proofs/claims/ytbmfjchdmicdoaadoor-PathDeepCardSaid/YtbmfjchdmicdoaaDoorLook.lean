/- reach, for one who looks: it goes where the path leads, and on by whatever closure. -/
import Derived.Test.YtbmfjchdmicdoaaDoorInside
import Derived.Shelf.Abstract
namespace Go.Proofs.YtbmfjchdmicdoaaDoor
open Go Go.RowKit

theorem inside_next {ok : Nat → Prop} {W W' : World} {b off : Nat} {g : GV} {s : GStep} {AL AO : Option Addr} {cL cO : Nat} {e : Ending} (h : Spot ok W b off g AL AO cL cO) (hq : InsidePost g s AL AO W e W') :
    Below W.heap.size W W' ∧ ((g.inside s = none ∧ e = .returned (.pointer none)) ∨ ∃ b' o' h', g.inside s = some h' ∧ e = .returned (.pointer (some ⟨b', o', none⟩)) ∧ h'.at ok W' b' o') := by
  obtain ⟨hb, hq⟩ := hq
  refine ⟨hb, ?_⟩
  rcases hq with h1 | ⟨_, k, lb, lo, h', hi, hg, hin, rfl, rfl⟩ | ⟨_, ob, oo, h', hg, hin, rfl, rfl⟩
  · exact .inl h1
  · have hl : g.items ≠ [] := by intro e; rw [e] at hg; simp at hg
    obtain ⟨_, _, he, _, _, hf⟩ := h.lst.form
    cases he
    obtain ⟨b, o, he, hK, hE⟩ := hf hl
    cases he
    exact .inr ⟨_, _, h', hin, rfl, GV.at_keep (From.of_below hb) (fun _ h _ => h) h' (hb.block _ hK.lt) (GV.els_get hE hg)⟩
  · have hl : g.vals ≠ [] := by intro e; rw [e] at hg; simp at hg
    obtain ⟨_, _, he, _, _, hf⟩ := h.obj.form
    cases he
    obtain ⟨b, o, he, hK, _, hE⟩ := hf hl
    cases he
    have := GV.els_get hE hg
    rw [show oo + 1 + place s.key g.keys * 6 = oo + place s.key g.keys * 6 + 1 by omega] at this
    exact .inr ⟨_, _, h', hin, rfl, GV.at_keep (From.of_below hb) (fun _ h _ => h) h' (hb.block _ hK.lt) this⟩

/-- Between the rounds. -/
def LookRel (ok : Nat → Prop) (g : GV) (ps : List GStep) (w : World) (v i : Value) (wr : World) : Prop :=
  ∃ (k b off : Nat) (h : GV), v = .pointer (some ⟨b, off, none⟩) ∧ i = .int .i64 k ∧ k ≤ ps.length ∧ g.get ps = h.get (ps.drop k) ∧ h.at ok wr b off ∧ Below w.heap.size w wr

theorem call_leave (v : Value) (hv : ∃ p, v = .pointer p) (w : World) : Calls Tryd.prog 28 #[v] w fun e w' => e = .returned (.tuple #[]) ∧ w' = w := by
  obtain ⟨p, rfl⟩ := hv
  go_enter Tryd.func28, Tryd.ntmps28
  go_wp2
  go_end0
  exact ⟨rfl, rfl⟩

set_option maxHeartbeats 4000000 in
theorem reach_look (Q : Ending → World → Prop) (G : Nat) (lb : Array Value) (eg : ∀ args w, (callFunc G args).run Tryd.prog w = .ok (.enter G args) w) (ok : Nat → Prop) (b off : Nat) (g : GV) (hi : Nat) (A : Option Addr) (cap : Nat) (ps : List GStep) (w : World) (hg : g.at ok w b off) (hp : Steps hi w A ps) (hhi : hi ≤ w.heap.size)
    (hcap : ps.length ≤ cap) (hm : cap ≤ maxLen) (hnone : ∀ W, g.get ps = none → Below w.heap.size w W → Q (.returned (.int .u16 30)) W)
    (hend : ∀ (W : World) (b o : Nat) (h : GV), g.get ps = some h → Below w.heap.size w W → h.at ok W b o → Calls Tryd.prog G (#[.pointer (some ⟨b, o, none⟩)] ++ lb) W fun e w' => e = .returned (.tuple #[]) ∧ Q (.returned (.int .u16 0)) w') :
    Calls Tryd.prog 27 #[.pointer (some ⟨b, off, none⟩), .slice A ps.length cap, .func (.func 28) #[] #[], .func (.func G) #[] lb] w Q := by
  have HN := Lib.hid hnone
  have HEND := Lib.hid hend
  have HP := Lib.hid hp
  have HG := Lib.hid hg
  clear hnone hend hp hg
  unfold maxLen at hm
  go_enter Tryd.func27, Tryd.ntmps27
  go_wp2
  go_loopw [0, 13] (LookRel ok g ps w) (fun _ i _ => ps.length - (intOf i).toNat)
  case atStart => exact ⟨0, b, off, g, rfl, rfl, Nat.zero_le _, rfl, HG.out, Below.refl _ _⟩
  case round =>
    obtain ⟨k, b, off, h, rfl, rfl, hk, hget, hat, hB⟩ := hrel
    by_cases hlt : k < ps.length
    · obtain ⟨pb, po, rfl, hpb, p0, p1, p2⟩ := (HP.out.keep (hB.mono hhi) (Nat.le_refl _)).one hlt
      obtain ⟨AL, AO, cL, cO, hsp⟩ := hat.spot
      have hdr : ps.drop k = ps[k] :: ps.drop (k + 1) := List.drop_eq_getElem_cons hlt
      rw [hdr] at hget
      simp only [GV.get] at hget
      have hin := fun (o : Obj) => (inside_at ok b off h AL AO cL cO (wr.alloc o) (hsp.keep (From.of_below ((Below.refl _ wr).alloc (Nat.le_refl _) o)) (fun _ h _ => h) (((Below.refl _ wr).alloc (Nat.le_refl _) o).block b hsp.lt)) ps[k]).mono fun e w' hq => inside_next (hsp.keep (From.of_below ((Below.refl _ wr).alloc (Nat.le_refl _) o)) (fun _ h _ => h) (((Below.refl _ wr).alloc (Nat.le_refl _) o).block b hsp.lt)) hq
      have hdn : ∀ (o : Obj) (W : World), Below (wr.alloc o).heap.size (wr.alloc o) W → Below w.heap.size w W := fun o W hb => hB.trans (((Below.refl _ wr).alloc (Nat.le_refl _) o |>.trans (hb.mono (by simp))).mono hB.size)
      have HIN := Lib.hid hin
      have HGET := Lib.hid hget
      clear hin hsp hat hget hB hdr
      generalize hs : ps[k] = s at *
      cases hio : h.inside s with
      | none =>
        rw [hio] at HGET HIN
        simp only [Option.bind_none] at HGET
        have hcall := fun (o : Obj) => (HIN.out o).mono (R' := fun e w' => e = .returned (.pointer none) ∧ Below w.heap.size w w') fun e w' hq => ⟨hq.2.elim (fun h => h.2) (fun ⟨_, _, _, h, _⟩ => by cases h), hdn o w' hq.1⟩
        have HC := Lib.hid hcall
        clear hcall HIN hdn
        go_wp2_with (first | (go_at_call 28; refine (call_leave _ ⟨_, rfl⟩ _).mono ?_; rintro e w1 ⟨rfl, rfl⟩) | (go_at_call 41; refine (HC.out _).mono ?_; rintro e w1 ⟨rfl, hb1⟩; have HB1 := Lib.hid hb1; clear hb1))
        exact HN.out _ HGET.out HB1.out
      | some h' =>
        rw [hio] at HGET HIN
        simp only [Option.bind_some] at HGET
        have hcall := fun (o : Obj) => (HIN.out o).mono (R' := fun e w' => ∃ b' o', e = .returned (.pointer (some ⟨b', o', none⟩)) ∧ h'.at ok w' b' o' ∧ Below w.heap.size w w') fun e w' hq => by
          rcases hq.2 with ⟨h, _⟩ | ⟨b', o', h2, h1, he, hat⟩
          · cases h
          · cases h1
            exact ⟨b', o', he, hat, hdn o w' hq.1⟩
        have HC := Lib.hid hcall
        clear hcall HIN hdn
        go_wp2_with (first | (go_at_call 28; refine (call_leave _ ⟨_, rfl⟩ _).mono ?_; rintro e w1 ⟨rfl, rfl⟩) | (go_at_call 41; refine (HC.out _).mono ?_; rintro e w1 ⟨b', o', rfl, hat1, hb1⟩; have HB1 := Lib.hid (And.intro hat1 hb1); clear hat1 hb1))
        go_roundw
        case rel => exact ⟨k + 1, b', o', h', rfl, by go_num, by omega, HGET.out, HB1.out.1, HB1.out.2⟩
        case measure => simp [intOf]; omega
    · have hk' : k = ps.length := by omega
      have hd : ps.drop k = [] := by rw [hk']; simp
      rw [hd] at hget
      have HC := Lib.hid (HEND.out _ _ _ _ hget hB hat)
      clear hget hB hat hd
      go_wp2_with (go_at_fn G; refine HC.out.mono ?_; rintro e w1 ⟨rfl, hq⟩; have HQ := Lib.hid hq; clear hq)
      exact HQ.out
end Go.Proofs.YtbmfjchdmicdoaaDoor
