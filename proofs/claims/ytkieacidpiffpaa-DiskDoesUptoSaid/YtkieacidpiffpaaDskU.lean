/- Any names; what is asked for is weighed. -/
import Derived.Test.YtkieacidpiffpaaDskR
import Derived.Test.YtkieacidpiffpaaDskT
namespace Go.Proofs.Ytkieacidpiffpaa
open Go Go.RowKit Go.Shelf
set_option linter.unusedVariables false
set_option linter.unusedSimpArgs false

section
variable {own own' : Nat → Prop} {w w' : World} {B : Nat} {m : Md}
theorem m_append (h : Lk own w B m) (A : Option Addr) (c n : Nat) (s : ByteArray) (bs : List Int) (hA : Src own w A bs) (hs : s.size ≤ maxLen) (hB : Byte bs) (hl : bs.length ≤ 9223372036854775807) (hn : n = bs.length) {r : Md × Int} (hr : m.append s bs = r) :
    Calls Try.prog 11 #[.pointer (some ⟨B, 0, none⟩), .string s, .slice A n c] w (LRes own w B r) := by
  obtain ⟨d, h1, rfl, rfl, rfl⟩ := h; subst hr
  exact (append_any h1 A c n s bs hA hs hB hl hn).mono fun e w' hq => hq.lk
theorem m_read (h : Lk own w B m) (s : ByteArray) (hs : s.size ≤ maxLen) {bs : List Int} {c : Int} (hb : readB m s = bs) (hc : readC m s = c) : Calls Try.prog 14 #[.pointer (some ⟨B, 0, none⟩), .string s] w fun e w' =>
    ∃ R q, e = .returned (.tuple #[.slice R bs.length q, .int .u16 c]) ∧ OwnB w.heap.size w' (.slice R bs.length q) bs ∧ Below w.heap.size w w' := by
  obtain ⟨d, h1, rfl, rfl, rfl⟩ := h; subst hb; subst hc
  exact read_any h1 s hs
theorem m_names (h : Lk own w B m) {n : Nat} (hn : m.fs.length = n) : Calls Try.prog 22 #[.pointer (some ⟨B, 0, none⟩)] w fun e w' => ∃ g c, e = .returned (.slice (some ⟨g, 0, none⟩) n c) ∧ Below w.heap.size w w' := by
  obtain ⟨d, h1, rfl, rfl, rfl⟩ := h
  refine (names_any h1).mono fun e w' hq => ?_
  obtain ⟨g, c, he, _, hb⟩ := hq
  have : d.fs.length = n := by rw [← hn]; exact (List.length_map ..).symm
  subst this
  exact ⟨g, c, he, hb⟩
theorem Lk.bounds (h : Lk own w B m) : sizes m.fs ≤ m.room ∧ m.room ≤ 1048576 ∧ m.fs.length ≤ 64 := by
  obtain ⟨d, h1, rfl, rfl, rfl⟩ := h
  exact ⟨h1.used, h1.room, by show (vws d.fs).length ≤ 64; unfold vws; rw [List.length_map]; exact h1.many⟩
end
/-- No Halt is open, and there is room. -/
def Md.plain (m : Md) : Prop := m.full = false ∧ m.left = -1
theorem append_plain {m : Md} (h : m.plain) (s : ByteArray) (bs : List Int) : m.append s bs = m.app s bs := by
  unfold Md.append Md.call Md.tick
  rw [if_neg (by rw [h.2]; decide), if_neg (by rw [h.2]; decide)]
theorem look_upd (fs : List Vw) (s : ByteArray) (g : Vw → Vw) (hg : ∀ f, (g f).name = f.name) : (updV fs s g).find? (fun f => decide (f.name = s)) = (fs.find? fun f => decide (f.name = s)).map g := by
  unfold updV
  rw [List.find?_map]
  have : ((fun f : Vw => decide (f.name = s)) ∘ fun f : Vw => if f.name = s then g f else f) = fun f : Vw => decide (f.name = s) := by
    funext f
    show decide ((if f.name = s then g f else f).name = s) = _
    split
    · rw [hg]
    · rfl
  rw [this]
  cases h : fs.find? fun f => decide (f.name = s) with
  | none => rfl
  | some f =>
    have := List.find?_some h
    simp only [decide_eq_true_eq] at this
    show some (if f.name = s then g f else f) = some (g f)
    rw [if_pos this]
theorem app_cases (m : Md) (s : ByteArray) (bs : List Int) : m.app s bs = (m, 130) ∨ (∃ f, m.look s = some f ∧ m.app s bs = ({ m with fs := updV m.fs s fun f => { f with has := f.has ++ bs } }, 0)) ∨ (m.look s = none ∧ m.app s bs = ({ m with fs := m.fs ++ [⟨s, bs, 0⟩] }, 0)) := by
  unfold Md.app
  split
  · exact .inl rfl
  · split
    · rename_i f hl; exact .inr (.inl ⟨f, hl, rfl⟩)
    · rename_i hl
      split
      · exact .inl rfl
      · exact .inr (.inr ⟨hl, rfl⟩)
/-- What Append answers, and what is read behind it. -/
theorem append_says {m : Md} (h : m.plain) (s : ByteArray) (bs : List Int) : (m.append s bs).1.plain ∧ (m.append s bs).1.room = m.room ∧
    (((m.append s bs).2 = 0 ∧ readB (m.append s bs).1 s = readB m s ++ bs) ∨ ((m.append s bs).2 = 130 ∧ (m.append s bs).1 = m)) := by
  rw [append_plain h]
  rcases app_cases m s bs with he | ⟨f, hl, he⟩ | ⟨hl, he⟩
  · rw [he]; exact ⟨h, rfl, .inr ⟨rfl, rfl⟩⟩
  · rw [he]
    refine ⟨h, rfl, .inl ⟨rfl, ?_⟩⟩
    have h1 := look_upd m.fs s (fun f => { f with has := f.has ++ bs }) (fun f => rfl)
    have h2 : m.fs.find? (fun f => decide (f.name = s)) = some f := hl
    rw [h2] at h1
    have h3 : readB m s = f.has := by unfold readB; rw [hl]
    rw [h3]
    show (match (updV m.fs s fun f => { f with has := f.has ++ bs }).find? (fun f : Vw => decide (f.name = s)) with | none => [] | some f => f.has) = _
    rw [h1]; rfl
  · rw [he]
    refine ⟨h, rfl, .inl ⟨rfl, ?_⟩⟩
    have h2 : m.fs.find? (fun f => decide (f.name = s)) = none := hl
    have h3 : readB m s = [] := by unfold readB; rw [hl]
    rw [h3]
    show (match (m.fs ++ [(⟨s, bs, 0⟩ : Vw)]).find? (fun f : Vw => decide (f.name = s)) with | none => [] | some f => f.has) = _
    rw [List.find?_append, h2]
    simp
set_option maxHeartbeats 4000000 in
theorem dheavy_any {hi : Nat} (A : Option Addr) (ca n : Nat) (xs : List OpG) (w : World) (hR : Opers hi w A xs) (hh : hi ≤ w.heap.size) (ht : wh xs ≤ 1000000000) (hn : n = xs.length) (hn2 : n ≤ 1000000000) :
    Calls Try.prog 17 #[.slice A n ca] w fun e w' => e = .returned (.bool (decide (100 < n) || decide (5000 < wh xs))) ∧ Below w.heap.size w w' := by
  have HR := Lib.hid hR
  have HT := Lib.hid ht
  have HN := Lib.hid hn
  have HH := Lib.hid hh
  clear hR ht hn hh
  go_enter Try.func17, Try.ntmps17
  go_wp2
  go_loopw [3, 4] (fun v i W => ∃ k : Nat, k ≤ n ∧ i = .int .i64 k ∧ v = .int .i64 (wh (xs.take k) : Nat) ∧ Below w.heap.size w W) (fun _ i _ => n - (intOf i).toNat)
  case atStart => exact ⟨0, Nat.zero_le _, rfl, rfl, Below.refl _ _⟩
  case round =>
    obtain ⟨k, hk, rfl, rfl, hb⟩ := hrel
    by_cases hlt : k < n
    · have hks : k < xs.length := by have := HN.out; omega
      obtain ⟨b1, o1, rfl, _, hc1⟩ := (HR.out.keep hb HH.out) (by intro e; simp [e] at hks)
      have hop := hc1 k xs[k] (List.getElem?_eq_getElem hks)
      have hnx := wh_next hks
      have hle := Nat.le_trans (wh_all xs (k + 1)) HT.out
      generalize xs[k] = x at hop hnx
      have p1 := hop.c1
      obtain ⟨C, cc, p2, _⟩ := hop.c2
      rw [hnx] at hle
      have HNX := Lib.hid hnx
      have HB := Lib.hid hb
      clear hnx hc1 hop hks hb
      generalize wh (xs.take k) = r at hle HNX
      generalize x.bs.length = p at hle HNX p2
      have hz1 : (p : Int) + (x.name.size : Int) ≤ 9223372036854775807 := by omega
      go_wp2_with fail
      go_quiet (fail)
      go_wp2
      go_roundw
      case rel => exact ⟨k + 1, by omega, by go_num, by rw [HNX.out]; go_num, below_drewN HB.out _⟩
      case measure => simp [intOf]; omega
    · obtain rfl : k = n := by omega
      have HE : wh (xs.take k) = wh xs := by rw [List.take_of_length_le (by have := HN.out; omega)]
      rw [HE]
      have hw9 := HT.out
      have HB := Lib.hid hb
      clear HE hb
      by_cases h1 : 100 < k
      · have d1 : decide ((100 : Int) < (k : Int)) = true := decide_eq_true (by omega)
        have d2 : decide (100 < k) = true := decide_eq_true h1
        go_wp2
        go_ret
        exact ⟨by first | rfl | simp [d2], HB.out⟩
      · have d1 : decide ((100 : Int) < (k : Int)) = false := decide_eq_false (by omega)
        have d2 : decide (100 < k) = false := decide_eq_false h1
        have d3 : decide ((5000 : Int) < ((wh xs : Nat) : Int)) = decide (5000 < wh xs) := by
          by_cases h2 : 5000 < wh xs
          · rw [decide_eq_true h2, decide_eq_true (by omega)]
          · rw [decide_eq_false h2, decide_eq_false (by omega)]
        go_wp2
        go_ret
        exact ⟨by first | rfl | simp [d2, d3], HB.out⟩
end Go.Proofs.Ytkieacidpiffpaa
