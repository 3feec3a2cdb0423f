/- What a sound component does to a sound value that it may be done to is sound. -/
import Derived.Test.YthnljaheplhbkaaDoorCompDy
import Derived.Test.YthnljaheplhbkaaDoorTextZ
import Derived.Test.YthnljaheplhbkaaDoorRefO
import Derived.Test.YthnljaheplhbkaaDoorBaseE
namespace Go.Proofs.YthnljaheplhbkaaDoor
open Go Go.RowKit
set_option linter.unusedVariables false
set_option linter.unusedSimpArgs false

theorem bytes_trans : ∀ (a b c : List UInt8), Op.bytesLess a b = true → Op.bytesLess b c = true → Op.bytesLess a c = true
  | _, [], _, h, _ => by simp [Op.bytesLess] at h
  | _, _ :: _, [], _, h => by simp [Op.bytesLess] at h
  | [], _ :: _, _ :: _, _, _ => by simp [Op.bytesLess]
  | x :: a, y :: b, z :: c, h1, h2 => by
    simp only [Op.bytesLess, Bool.or_eq_true, Bool.and_eq_true, decide_eq_true_eq, beq_iff_eq] at h1 h2 ⊢
    rcases h1 with h1 | ⟨rfl, h1⟩
    · rcases h2 with h2 | ⟨rfl, h2⟩
      · exact .inl (UInt8.lt_trans h1 h2)
      · exact .inl h1
    · rcases h2 with h2 | ⟨rfl, h2⟩
      · exact .inl h2
      · exact .inr ⟨rfl, bytes_trans a b c h1 h2⟩
theorem less_trans {a b c : ByteArray} (h1 : less' a b = true) (h2 : less' b c = true) : less' a c = true := bytes_trans _ _ _ h1 h2
theorem remK_ok {ks : List ByteArray} {i : Nat} (h : KeysOk ks) (hi : i < ks.length) : KeysOk (remL ks i) := by
  intro a k ha hk
  have hl := remL_len hi
  rw [remL_get hi] at hk
  by_cases h1 : a < i
  · rw [if_pos h1] at hk
    refine ⟨(h a k (by omega) hk).1, fun j p e hj => ?_⟩
    rw [remL_get hi, if_pos (by omega)] at hj
    exact (h a k (by omega) hk).2 j p e hj
  · rw [if_neg h1] at hk
    have hk2 := (List.getElem?_eq_some_iff.1 hk).1
    refine ⟨(h (a + 1) k hk2 hk).1, fun j p e hj => ?_⟩
    rw [remL_get hi] at hj
    by_cases h2 : j < i
    · rw [if_pos h2] at hj
      have hm : ks[a]? = some (ks[a]'(by omega)) := List.getElem?_eq_getElem _
      exact less_trans ((h a _ (by omega) hm).2 j p e hj) ((h (a + 1) k hk2 hk).2 a _ rfl hm)
    · rw [if_neg h2] at hj
      exact (h (a + 1) k hk2 hk).2 (j + 1) p (by omega) hj
theorem insK_is {key : ByteArray} {ks : List ByteArray} (h : there key ks = false) : insK key ks = insL ks (place key ks) key := by
  unfold insK insL insN
  rw [h]
  rfl
theorem insL_mem {α : Type} {l : List α} {i : Nat} {v x : α} (h : x ∈ insL l i v) : x = v ∨ x ∈ l := by
  unfold insL at h
  rcases List.mem_append.1 h with h | h
  · exact .inr (List.mem_of_mem_take h)
  · rcases List.mem_cons.1 h with h | h
    · exact .inl h
    · exact .inr (List.mem_of_mem_drop h)
theorem remL_mem {α : Type} {l : List α} {i : Nat} {x : α} (h : x ∈ remL l i) : x ∈ l := by
  unfold remL at h
  rcases List.mem_append.1 h with h | h
  · exact List.mem_of_mem_take h
  · exact List.mem_of_mem_drop h
theorem doL_mem {l : List GV} {c : Cm GV} {x : GV} (h : x ∈ doL l c) : x = c.v ∨ x ∈ l := by
  unfold doL at h
  split at h
  · exact insL_mem h
  · split at h
    · exact .inr (remL_mem h)
    · split at h
      · rcases insL_mem h with h | h
        · exact .inl h
        · exact .inr (remL_mem h)
      · split at h
        · rename_i y hy
          rcases insL_mem h with h | h
          · subst h; exact .inr (List.mem_of_getElem? hy)
          · exact .inr (remL_mem h)
        · exact .inr h
theorem chk_kind {h : GV} {c : GC} (e : chkH h c = 0) : h.kind = worksOn c.kind := by
  unfold chkH at e
  by_cases hk : h.kind = worksOn c.kind
  · exact hk
  · rw [if_pos hk] at e
    cases e
theorem chk_there {h : GV} {c : GC} (e : chkH h c = 0) (h3 : c.kind = 3) : there c.key h.keys = true := by
  have hw : worksOn c.kind = 5 := by rw [h3]; decide
  have hk : h.kind = 5 := (chk_kind e).trans hw
  unfold chkH at e
  rw [if_neg (fun hn => hn (hk.trans hw.symm)), if_neg (by omega), if_neg (by omega)] at e
  by_cases ht : there c.key h.keys = true
  · exact ht
  · rw [if_pos ⟨h3, by simpa using ht⟩] at e
    cases e
theorem doH_put {h : GV} {c : GC} (h2 : c.kind = 2) (ht : there c.key h.keys = true) : doH h c = .mk h.kind h.num h.str h.items h.keys (h.vals.set (place c.key h.keys) c.v) := by
  unfold doH
  rw [if_neg (by omega), if_pos h2, if_pos ht]
theorem doH_new {h : GV} {c : GC} (h2 : c.kind = 2) (ht : ¬ there c.key h.keys = true) : doH h c = .mk h.kind h.num h.str h.items (insL h.keys (place c.key h.keys) c.key) (insL h.vals (place c.key h.keys) c.v) := by
  unfold doH
  rw [if_neg (by omega), if_pos h2, if_neg ht]
theorem doH_sound {h : GV} {c : GC} (hh : h.Sound) (hc : c.Sound) (e : chkH h c = 0) : (doH h c).Sound := by
  have hk := chk_kind e
  have hdel := chk_there e
  obtain ⟨_, _, hkey, _, ⟨⟨hk1, hk9⟩, _, hs8, _⟩, hv⟩ := hc
  have hvs := hv.1
  cases h with
  | mk k n z l ks ov =>
    simp only [GV.Sound] at hh
    obtain ⟨⟨p1, p2, p3, p4, p5⟩, hl, ho⟩ := hh
    rw [sounds_iff] at hl ho
    simp only [GV.kind, GV.keys] at hk hdel
    unfold worksOn at hk
    by_cases h2 : c.kind = 2
    · rw [if_neg (by omega), if_pos (.inl h2)] at hk
      have hko : KeysOk ks := by
        rcases p5 with p | p
        · exact p.2
        · exact absurd hk p.1
      by_cases ht : there c.key ks = true
      · rw [doH_put (h := .mk k n z l ks ov) h2 ht]
        simp only [GV.kind, GV.num, GV.str, GV.items, GV.keys, GV.vals, GV.Sound]
        rw [sounds_iff, sounds_iff]
        refine ⟨⟨p1, p2, p3, p4, .inl ⟨hk, hko⟩⟩, hl, fun x hx => ?_⟩
        rcases List.mem_or_eq_of_mem_set hx with hx | hx
        · exact ho x hx
        · subst hx; exact hvs
      · rw [doH_new (h := .mk k n z l ks ov) h2 ht]
        simp only [GV.kind, GV.num, GV.str, GV.items, GV.keys, GV.vals, GV.Sound]
        rw [sounds_iff, sounds_iff]
        refine ⟨⟨p1, p2, p3, p4, .inl ⟨hk, by rw [← insK_is (by simpa using ht)]; exact insK_ok hko hkey⟩⟩, hl, fun x hx => ?_⟩
        rcases insL_mem hx with hx | hx
        · subst hx; exact hvs
        · exact ho x hx
    unfold doH
    rw [if_neg h2]
    by_cases h1 : c.kind = 1
    · rw [if_pos h1] at hk ⊢
      simp only [GV.kind, GV.num, GV.str, GV.items, GV.keys, GV.vals, GV.Sound]
      rw [sounds_iff, sounds_iff]
      exact ⟨⟨p1, .inl hk, p3, p4, p5⟩, hl, ho⟩
    rw [if_neg h1] at hk ⊢
    simp only [GV.kind, GV.num, GV.str, GV.items, GV.keys, GV.vals]
    by_cases h3 : c.kind = 3
    · rw [if_pos (.inr h3)] at hk
      have hko : KeysOk ks := by
        rcases p5 with p | p
        · exact p.2
        · exact absurd hk p.1
      rw [if_pos h3]
      simp only [GV.Sound]
      rw [sounds_iff, sounds_iff]
      exact ⟨⟨p1, p2, p3, p4, .inl ⟨hk, remK_ok hko (there_lt (hdel h3))⟩⟩, hl, fun x hx => ho x (remL_mem hx)⟩
    rw [if_neg h3]
    rw [if_neg (by omega)] at hk
    by_cases h8 : c.kind = 8
    · rw [if_pos (.inl h8)] at hk
      rw [if_pos h8]
      simp only [GV.Sound]
      rw [sounds_iff, sounds_iff]
      refine ⟨⟨p1, p2, .inl ⟨hk, ins_valid _ ?_ (hs8 h8).2⟩, p4, p5⟩, hl, ho⟩
      rcases p3 with p | p
      · exact p.2
      · exact absurd hk p.1
    rw [if_neg h8]
    by_cases h9 : c.kind = 9
    · rw [if_pos (.inr h9)] at hk
      rw [if_pos h9]
      simp only [GV.Sound]
      rw [sounds_iff, sounds_iff]
      refine ⟨⟨p1, p2, .inl ⟨hk, del_valid _ _ ?_⟩, p4, p5⟩, hl, ho⟩
      rcases p3 with p | p
      · exact p.2
      · exact absurd hk p.1
    rw [if_neg h9]
    rw [if_neg (by omega)] at hk
    simp only [GV.Sound]
    rw [sounds_iff, sounds_iff]
    refine ⟨⟨p1, p2, p3, .inl hk, p5⟩, fun x hx => ?_, ho⟩
    rcases doL_mem hx with hx | hx
    · subst hx; exact hvs
    · exact hl x hx
end Go.Proofs.YthnljaheplhbkaaDoor
