/- The document's own Same: what it comes to for two values, whatever they are. -/
import Derived.Test.YtmmjkhkcffgeiaaDoorBaseB
import Derived.BigQuiet
import Derived.Lib.QuietBelow
namespace Go.Proofs.YtmmjkhkcffgeiaaDoor
open Go Go.RowKit Go.Sort

def SameTo (l h : List GV) (k : Nat) : Prop := ∀ (i : Nat) (x y : GV), i < k → l[i]? = some x → h[i]? = some y → x.Same y
def KeyTo (ks kt : List ByteArray) (k : Nat) : Prop := ∀ (i : Nat) (x y : ByteArray), i < k → ks[i]? = some x → kt[i]? = some y → x.toList = y.toList
theorem sames_iff : ∀ (l h : List GV), GV.Sames l h ↔ SameTo l h l.length
  | [], _ => by simp [GV.Sames, SameTo]
  | x :: r, [] => by simp [GV.Sames, SameTo]
  | x :: r, y :: q => by
    simp only [GV.Sames, sames_iff r q]
    constructor
    · rintro ⟨h1, h2⟩ i a b hi ha hb
      cases i with
      | zero => simp at ha hb; subst ha; subst hb; exact h1
      | succ i => exact h2 i a b (by simpa using hi) (by simpa using ha) (by simpa using hb)
    · intro h
      exact ⟨h 0 x y (by simp) rfl rfl, fun i a b hi ha hb => h (i + 1) a b (by simpa using hi) (by simpa using ha) (by simpa using hb)⟩
theorem letters_iff : ∀ (ks kt : List ByteArray), ks.length = kt.length → (letters ks = letters kt ↔ KeyTo ks kt ks.length)
  | [], [], _ => by simp [letters, KeyTo]
  | x :: r, y :: q, h => by
    have ih := letters_iff r q (by simpa using h)
    have e : letters (x :: r) = letters (y :: q) ↔ x.toList = y.toList ∧ letters r = letters q := by simp [letters]
    rw [e, ih]
    constructor
    · rintro ⟨h1, h2⟩ i a b hi ha hb
      cases i with
      | zero => simp at ha hb; subst ha; subst hb; exact h1
      | succ i => exact h2 i a b (by simpa using hi) (by simpa using ha) (by simpa using hb)
    · intro h
      exact ⟨h 0 x y (by simp) rfl rfl, fun i a b hi ha hb => h (i + 1) a b (by simpa using hi) (by simpa using ha) (by simpa using hb)⟩
theorem SameTo.succ {l h : List GV} {k : Nat} (h0 : SameTo l h k) {x y : GV} (hx : l[k]? = some x) (hy : h[k]? = some y) (hs : x.Same y) : SameTo l h (k + 1) := fun i a b hi ha hb => by
  by_cases e : i = k
  · subst e; rw [hx] at ha; rw [hy] at hb; cases ha; cases hb; exact hs
  · exact h0 i a b (by omega) ha hb
theorem KeyTo.succ {l h : List ByteArray} {k : Nat} (h0 : KeyTo l h k) {x y : ByteArray} (hx : l[k]? = some x) (hy : h[k]? = some y) (hs : x.toList = y.toList) : KeyTo l h (k + 1) := fun i a b hi ha hb => by
  by_cases e : i = k
  · subst e; rw [hx] at ha; rw [hy] at hb; cases ha; cases hb; exact hs
  · exact h0 i a b (by omega) ha hb

def SameRel (W0 : World) (l h : List GV) (i : Value) (wr : World) : Prop := ∃ k : Nat, i = .int .i64 k ∧ k ≤ l.length ∧ SameTo l h k ∧ Below W0.heap.size W0 wr
def SameRel2 (W0 : World) (ks kt : List ByteArray) (l h : List GV) (i : Value) (wr : World) : Prop := ∃ k : Nat, i = .int .i64 k ∧ k ≤ l.length ∧ SameTo l h k ∧ KeyTo ks kt k ∧ Below W0.heap.size W0 wr

set_option maxRecDepth 100000 in
set_option maxHeartbeats 8000000 in
theorem ref_Same (F : Nat) : ∀ (ok : Nat → Prop) (v v' : Value) (g h : GV) (w : World), g.size ≤ F → g.val ok w v → h.val ok w v' → g.size ≤ 1000000000 → h.size ≤ 1000000000 →
    Calls Tryd.prog 17 #[v, v'] w (EqPost (g.Same h) w) := by
  induction F with
  | zero => intro ok v v' g h w hF; cases g with | mk k n s l ks ov => simp only [GV.size] at hF; omega
  | succ F ih =>
    intro ok v v' g h w hF hv hv' hg hh
    obtain ⟨L, O, rfl, hL, hO⟩ := hv
    obtain ⟨L', O', rfl, hL', hO'⟩ := hv'
    have hkl := hO.1
    have hkl' := hO'.1
    obtain ⟨A, c, rfl, hc1, hc2, hf⟩ := hL.form
    obtain ⟨B, d, rfl, hd1, hd2, he⟩ := hO.form
    obtain ⟨A', c', rfl, hc1', hc2', hf'⟩ := hL'.form
    obtain ⟨B', d', rfl, hd1', hd2', he'⟩ := hO'.form
    have hge := size_eq g
    have hhe := size_eq h
    have hl1 := len_sizes g.items
    have hl2 := len_sizes g.vals
    have hl3 := len_sizes h.items
    have hl4 := len_sizes h.vals
    have hsz : ∀ x ∈ g.items, x.size ≤ F := fun x hx => by
      obtain ⟨i, hi, rfl⟩ := List.mem_iff_getElem.1 hx
      have := sizes_get g.items i hi
      omega
    have hszv : ∀ x ∈ g.vals, x.size ≤ F := fun x hx => by
      obtain ⟨i, hi, rfl⟩ := List.mem_iff_getElem.1 hx
      have := sizes_get g.vals i hi
      omega
    have hsx : ∀ x, (x ∈ g.items ∨ x ∈ g.vals ∨ x ∈ h.items ∨ x ∈ h.vals) → x.size ≤ 1000000000 := fun x hx => by
      rcases hx with hx | hx | hx | hx
      all_goals
        obtain ⟨i, hi, rfl⟩ := List.mem_iff_getElem.1 hx
        have := sizes_get _ i hi
        omega
    have HSS : Hid (g.Same h ↔ (g.kind = h.kind ∧ g.num = h.num ∧ g.str.toList = h.str.toList ∧ g.items.length = h.items.length ∧ letters g.keys = letters h.keys) ∧ SameTo g.items h.items g.items.length ∧ SameTo g.vals h.vals g.vals.length) := by
      rw [← sames_iff, ← sames_iff]
      exact same_eq g h
    generalize g.Same h = SS at *
    generalize g.items = l at *
    generalize g.vals = ov at *
    generalize g.keys = ks at *
    generalize g.kind = gk at *
    generalize g.num = gn at *
    generalize g.str = gs at *
    generalize h.items = l' at *
    generalize h.vals = ov' at *
    generalize h.keys = ks' at *
    generalize h.kind = hk at *
    generalize h.num = hn at *
    generalize h.str = hs at *
    have IH := Lib.hid ih
    have HF := Lib.hid (And.intro hf hf')
    have HG := Lib.hid (And.intro he he')
    have HX := Lib.hid (And.intro hsz (And.intro hszv hsx))
    have HKL := Lib.hid (And.intro hkl hkl')
    have m1 : l.length ≤ 1000000000 := by omega
    have m2 : ov.length ≤ 1000000000 := by omega
    have m3 : l'.length ≤ 1000000000 := by omega
    have m4 : ov'.length ≤ 1000000000 := by omega
    unfold maxLen at hc2 hd2 hc2' hd2'
    clear ih hf hf' he he' hsz hszv hsx hkl hkl' hF hg hh hge hhe hl1 hl2 hl3 hl4 hL hO hL' hO'
    by_cases q0 : gk = hk
    case neg =>
      have z0 : (gk == hk) = false := by simpa using q0
      have Q0 := Lib.hid q0
      clear q0
      go_enter Tryd.func17, Tryd.ntmps17
      go_wp2
      go_ret
      exact ⟨false, rfl, ⟨(fun h => by cases h), fun h => absurd (HSS.out.1 h).1.1 Q0.out⟩, ((Below.refl _ _).alloc (Nat.le_refl _) _).alloc (by simp) _⟩
    subst q0
    by_cases q1 : gn = hn
    case neg =>
      have z1 : (gn == hn) = false := by simpa using q1
      have Q0 := Lib.hid q1
      clear q1
      go_enter Tryd.func17, Tryd.ntmps17
      go_wp2
      go_ret
      exact ⟨false, rfl, ⟨(fun h => by cases h), fun h => absurd (HSS.out.1 h).1.2.1 Q0.out⟩, ((Below.refl _ _).alloc (Nat.le_refl _) _).alloc (by simp) _⟩
    subst q1
    by_cases q2 : gs.toList = hs.toList
    case neg =>
      have z2 : (gs.toList == hs.toList) = false := by simpa using q2
      have Q0 := Lib.hid q2
      clear q2
      go_enter Tryd.func17, Tryd.ntmps17
      go_wp2
      go_ret
      exact ⟨false, rfl, ⟨(fun h => by cases h), fun h => absurd (HSS.out.1 h).1.2.2.1 Q0.out⟩, ((Below.refl _ _).alloc (Nat.le_refl _) _).alloc (by simp) _⟩
    have z2 : (gs.toList == hs.toList) = true := by simp [q2]
    have Q2 := Lib.hid q2
    clear q2
    by_cases q3 : l.length = l'.length
    case neg =>
      have z3 : ((l.length : Int) == (l'.length : Int)) = false := by simp; omega
      have z3' : (l.length == l'.length) = false := by simpa using q3
      have Q0 := Lib.hid q3
      clear q3
      go_enter Tryd.func17, Tryd.ntmps17
      go_wp2
      go_ret
      exact ⟨false, rfl, ⟨(fun h => by cases h), fun h => absurd (HSS.out.1 h).1.2.2.2.1 Q0.out⟩, ((Below.refl _ _).alloc (Nat.le_refl _) _).alloc (by simp) _⟩
    by_cases q4 : ov.length = ov'.length
    case neg =>
      rw [← q3]
      have z4 : ((ov.length : Int) == (ov'.length : Int)) = false := by simp; omega
      have z4' : (ov.length == ov'.length) = false := by simpa using q4
      have Q0 := Lib.hid q4
      clear q4 q3
      go_enter Tryd.func17, Tryd.ntmps17
      go_wp2
      go_ret
      exact ⟨false, rfl, ⟨(fun h => by cases h), fun h => absurd (by have h1 := congrArg List.length (HSS.out.1 h).1.2.2.2.2; have h2 := HKL.out; simp [letters] at h1; omega) Q0.out⟩, ((Below.refl _ _).alloc (Nat.le_refl _) _).alloc (by simp) _⟩
    rw [← q3, ← q4]
    have Q3 := Lib.hid q3
    have Q4 := Lib.hid q4
    clear q3 q4
    go_enter Tryd.func17, Tryd.ntmps17
    go_wp2
    have hB : Below w.heap.size w ((w.alloc (.cells #[Value.int IntKind.u8 gk, Value.int IntKind.i64 gn, Value.string gs, Value.slice A l.length c, Value.slice B ov.length d] 31)).alloc (.cells #[Value.int IntKind.u8 gk, Value.int IntKind.i64 gn, Value.string hs, Value.slice A' l.length c', Value.slice B' ov.length d'] 31)) := ((Below.refl _ _).alloc (Nat.le_refl _) _).alloc (by simp) _
    have hW := (Whole.new w 31 #[Value.int IntKind.u8 gk, Value.int IntKind.i64 gn, Value.string gs, Value.slice A l.length c, Value.slice B ov.length d]).alloc (.cells #[Value.int IntKind.u8 gk, Value.int IntKind.i64 gn, Value.string hs, Value.slice A' l.length c', Value.slice B' ov.length d'] 31)
    have hV := Whole.new (w.alloc (.cells #[Value.int IntKind.u8 gk, Value.int IntKind.i64 gn, Value.string gs, Value.slice A l.length c, Value.slice B ov.length d] 31)) 31 #[Value.int IntKind.u8 gk, Value.int IntKind.i64 gn, Value.string hs, Value.slice A' l.length c', Value.slice B' ov.length d']
    rw [World.size_alloc] at hV
    generalize ((w.alloc (.cells #[Value.int IntKind.u8 gk, Value.int IntKind.i64 gn, Value.string gs, Value.slice A l.length c, Value.slice B ov.length d] 31)).alloc (.cells #[Value.int IntKind.u8 gk, Value.int IntKind.i64 gn, Value.string hs, Value.slice A' l.length c', Value.slice B' ov.length d'] 31)) = W0 at hB hW hV ⊢
    have HW := Lib.hid hW
    have HV := Lib.hid hV
    have HB := Lib.hid hB
    clear hW hB hV
    go_loopw [5] (SameRel W0 l l') (fun i _ => l.length - (intOf i).toNat)
    case atStart => exact ⟨0, rfl, Nat.zero_le _, fun i _ _ h => by omega, Below.refl _ _⟩
    case round =>
      obtain ⟨k, rfl, hk, hto, hr⟩ := hrel
      have hx3 : wr.cell? ⟨w.heap.size, 3, none⟩ = some (.slice A l.length c) := ((HW.out.below hr HW.out.lt).cell 3).trans rfl
      have hy3 : wr.cell? ⟨w.heap.size + 1, 3, none⟩ = some (.slice A' l.length c') := ((HV.out.below hr HV.out.lt).cell 3).trans rfl
      have hwr : Below w.heap.size w wr := HB.out.trans (hr.mono HB.out.size)
      have HR := Lib.hid hr
      have HTO := Lib.hid hto
      clear hr hto
      by_cases hlt : k < l.length
      · have hlt' : k < l'.length := by have := Q3.out; omega
        obtain ⟨b, o, rfl, hK, hE⟩ := HF.out.1 (by intro e; rw [e] at hlt; simp at hlt)
        obtain ⟨b', o', rfl, hK', hE'⟩ := HF.out.2 (by intro e; rw [e] at hlt'; simp at hlt')
        obtain ⟨A1, c1, A2, c2, hcells, hval⟩ := item_at hE hK hlt
        obtain ⟨A1', c1', A2', c2', hcells', hval'⟩ := item_at hE' hK' hlt'
        obtain ⟨q0, q1, q2, q3, q4⟩ := hcells wr hwr
        obtain ⟨p0, p1, p2, p3, p4⟩ := hcells' wr hwr
        have r0 := cell_regrown q0
        have r1 := cell_regrown q1
        have r2 := cell_regrown q2
        have r3 := cell_regrown q3
        have r4 := cell_regrown q4
        have s0 := cell_regrown p0
        have s1 := cell_regrown p1
        have s2 := cell_regrown p2
        have s3 := cell_regrown p3
        have s4 := cell_regrown p4
        have rx := cell_regrown hx3
        have ry := cell_regrown hy3
        have hw3 := fun (d : Nat) (os : Array Obj) => hwr.trans ((below_regrown wr d os).mono hwr.size)
        have HC := Lib.hid (fun (d : Nat) (os : Array Obj) => IH.out _ _ _ l[k] l'[k] (grow (redrawn wr d) os) (HX.out.1 _ (List.getElem_mem hlt)) (hval _ (hw3 d os)) (hval' _ (hw3 d os)) (HX.out.2.2 _ (.inl (List.getElem_mem hlt))) (HX.out.2.2 _ (.inr (.inr (.inl (List.getElem_mem hlt'))))))
        have HG1 := Lib.hid (And.intro (List.getElem?_eq_getElem hlt) (List.getElem?_eq_getElem hlt'))
        clear hcells hcells' hval hval' hK hK' hE hE' hw3 p0 p1 p2 p3 p4 q0 q1 q2 q3 q4
        generalize l[k] = x at *
        generalize l'[k] = y at *
        by_cases hs : x.Same y
        · have HS := Lib.hid hs
          clear hs
          have hcall2 : ∀ (d : Nat) (os : Array Obj), Calls Tryd.prog 17 _ (grow (redrawn wr d) os) fun e w'' => e = .returned (.bool true) ∧ ∃ p : Regrown, w'' = grow (redrawn wr p.d) p.os := fun d os =>
                Calls.regrown_of ((HC.out d os).mono fun e w'' h => by
                  obtain ⟨b2, rfl, hb2, hbel⟩ := h
                  have : b2 = true := by rw [Bool.eq_iff_iff, hb2]; simp [HS.out]
                  subst this
                  exact ⟨rfl, hbel⟩)
          go_wp2
          refine wp_region_quiet_below (by kernel_rfl) (by kernel_rfl) ?_
          repeat (quiet_step (exact hcall2 _ _))
          refine wpQuiet_nil ?_
          intro _ hw'
          obtain ⟨⟨dq, osq⟩, hw''⟩ := hw'
          subst hw''
          clear hcall2
          go_wp2
          go_roundw
          case rel => exact ⟨k + 1, by go_simp, by omega, HTO.out.succ HG1.out.1 HG1.out.2 HS.out, HR.out.trans ((below_regrown wr dq osq).mono HR.out.size)⟩
          case measure => simp [intOf]; omega
        · have HS := Lib.hid hs
          clear hs
          have hcall2 : ∀ (d : Nat) (os : Array Obj), Calls Tryd.prog 17 _ (grow (redrawn wr d) os) fun e w'' => e = .returned (.bool false) ∧ ∃ p : Regrown, w'' = grow (redrawn wr p.d) p.os := fun d os =>
                Calls.regrown_of ((HC.out d os).mono fun e w'' h => by
                  obtain ⟨b2, rfl, hb2, hbel⟩ := h
                  have : b2 = false := by rw [Bool.eq_iff_iff, hb2]; simp [HS.out]
                  subst this
                  exact ⟨rfl, hbel⟩)
          go_wp2
          refine wp_region_quiet_below (by kernel_rfl) (by kernel_rfl) ?_
          repeat (quiet_step (exact hcall2 _ _))
          refine wpQuiet_nil ?_
          intro _ hw'
          obtain ⟨⟨dq, osq⟩, hw''⟩ := hw'
          subst hw''
          clear hcall2
          go_wp2
          go_ret
          exact ⟨false, rfl, ⟨(fun h => by cases h), fun h => absurd ((HSS.out.1 h).2.1 k x y hlt HG1.out.1 HG1.out.2) HS.out⟩, hwr.trans ((below_regrown wr dq osq).mono hwr.size)⟩
      · have hkl : k = l.length := by omega
        subst hkl
        go_wp2
        clear hx3 hy3 hwr
        go_loopw [7] (SameRel2 W0 ks ks' ov ov') (fun i _ => ov.length - (intOf i).toNat)
        case atStart => exact ⟨0, rfl, Nat.zero_le _, (fun i _ _ h => by omega), (fun i _ _ h => by omega), HR.out⟩
        case round =>
          clear HR
          obtain ⟨k, rfl, hk, hto, hkt, hr⟩ := hrel
          have hx4 : wr.cell? ⟨w.heap.size, 4, none⟩ = some (.slice B ov.length d) := ((HW.out.below hr HW.out.lt).cell 4).trans rfl
          have hy4 : wr.cell? ⟨w.heap.size + 1, 4, none⟩ = some (.slice B' ov.length d') := ((HV.out.below hr HV.out.lt).cell 4).trans rfl
          have hwr : Below w.heap.size w wr := HB.out.trans (hr.mono HB.out.size)
          have HR := Lib.hid hr
          have HT2 := Lib.hid (And.intro hto hkt)
          clear hr hto hkt
          by_cases hlt : k < ov.length
          · have hlt' : k < ov'.length := by have := Q4.out; omega
            have hlk : k < ks.length := by have := HKL.out; omega
            have hlk' : k < ks'.length := by have := HKL.out; omega
            obtain ⟨b, o, rfl, hK, hks, hE⟩ := HG.out.1 (by intro e; rw [e] at hlt; simp at hlt)
            obtain ⟨b', o', rfl, hK', hks', hE'⟩ := HG.out.2 (by intro e; rw [e] at hlt'; simp at hlt')
            obtain ⟨A1, c1, A2, c2, hcells, hval⟩ := field_at hks hE hK hlt hlk
            obtain ⟨A1', c1', A2', c2', hcells', hval'⟩ := field_at hks' hE' hK' hlt' hlk'
            obtain ⟨q, q0, q1, q2, q3, q4⟩ := hcells wr hwr
            obtain ⟨p, p0, p1, p2, p3, p4⟩ := hcells' wr hwr
            have r := cell_regrown q
            have r0 := cell_regrown q0
            have r1 := cell_regrown q1
            have r2 := cell_regrown q2
            have r3 := cell_regrown q3
            have r4 := cell_regrown q4
            have s := cell_regrown p
            have s0 := cell_regrown p0
            have s1 := cell_regrown p1
            have s2 := cell_regrown p2
            have s3 := cell_regrown p3
            have s4 := cell_regrown p4
            have rx := cell_regrown hx4
            have ry := cell_regrown hy4
            have hw3 := fun (d : Nat) (os : Array Obj) => hwr.trans ((below_regrown wr d os).mono hwr.size)
            have HC := Lib.hid (fun (d : Nat) (os : Array Obj) => IH.out _ _ _ ov[k] ov'[k] (grow (redrawn wr d) os) (HX.out.2.1 _ (List.getElem_mem hlt)) (hval _ (hw3 d os)) (hval' _ (hw3 d os)) (HX.out.2.2 _ (.inr (.inl (List.getElem_mem hlt)))) (HX.out.2.2 _ (.inr (.inr (.inr (List.getElem_mem hlt'))))))
            have HG1 := Lib.hid (And.intro (And.intro (List.getElem?_eq_getElem hlt) (List.getElem?_eq_getElem hlt')) (And.intro (List.getElem?_eq_getElem hlk) (List.getElem?_eq_getElem hlk')))
            clear hcells hcells' hval hval' hK hK' hE hE' hw3 p p0 p1 p2 p3 p4 q q0 q1 q2 q3 q4 hks hks'
            generalize ov[k] = x at *
            generalize ov'[k] = y at *
            generalize ks[k] = kk at *
            generalize ks'[k] = kt at *
            by_cases hs : x.Same y
            · have HS := Lib.hid hs
              clear hs
              have hcall2 : ∀ (d : Nat) (os : Array Obj), Calls Tryd.prog 17 _ (grow (redrawn wr d) os) fun e w'' => e = .returned (.bool true) ∧ ∃ p : Regrown, w'' = grow (redrawn wr p.d) p.os := fun d os =>
                Calls.regrown_of ((HC.out d os).mono fun e w'' h => by
                  obtain ⟨b2, rfl, hb2, hbel⟩ := h
                  have : b2 = true := by rw [Bool.eq_iff_iff, hb2]; simp [HS.out]
                  subst this
                  exact ⟨rfl, hbel⟩)
              by_cases hkk : kk.toList = kt.toList
              · have zk : (kk.toList == kt.toList) = true := by simp [hkk]
                have HKK := Lib.hid hkk
                clear hkk
                go_wp2
                refine wp_region_quiet_below (by kernel_rfl) (by kernel_rfl) ?_
                repeat (quiet_step (exact hcall2 _ _))
                refine wpQuiet_nil ?_
                intro _ hw'
                obtain ⟨⟨dq, osq⟩, hw''⟩ := hw'
                subst hw''
                clear hcall2
                go_wp2
                go_quiet (fail)
                go_wp2
                go_roundw
                case rel => exact ⟨k + 1, by go_simp, by omega, HT2.out.1.succ HG1.out.1.1 HG1.out.1.2 HS.out, HT2.out.2.succ HG1.out.2.1 HG1.out.2.2 HKK.out, below_dn (HR.out.trans ((below_regrown wr dq osq).mono HR.out.size)) _⟩
                case measure => simp [intOf]; omega
              · have zk : (kk.toList == kt.toList) = false := by simpa using hkk
                have HKK := Lib.hid hkk
                clear hkk
                go_wp2
                refine wp_region_quiet_below (by kernel_rfl) (by kernel_rfl) ?_
                repeat (quiet_step (exact hcall2 _ _))
                refine wpQuiet_nil ?_
                intro _ hw'
                obtain ⟨⟨dq, osq⟩, hw''⟩ := hw'
                subst hw''
                clear hcall2
                go_wp2
                go_quiet (fail)
                go_wp2
                go_ret
                exact ⟨false, rfl, ⟨(fun h => by cases h), fun h => absurd ((letters_iff ks ks' (by have h1 := HKL.out; have h2 := Q4.out; omega)).1 (HSS.out.1 h).1.2.2.2.2 k kk kt (by have h1 := HKL.out; omega) HG1.out.2.1 HG1.out.2.2) HKK.out⟩, below_dn (hwr.trans ((below_regrown wr dq osq).mono hwr.size)) _⟩
            · have HS := Lib.hid hs
              clear hs
              have hcall2 : ∀ (d : Nat) (os : Array Obj), Calls Tryd.prog 17 _ (grow (redrawn wr d) os) fun e w'' => e = .returned (.bool false) ∧ ∃ p : Regrown, w'' = grow (redrawn wr p.d) p.os := fun d os =>
                Calls.regrown_of ((HC.out d os).mono fun e w'' h => by
                  obtain ⟨b2, rfl, hb2, hbel⟩ := h
                  have : b2 = false := by rw [Bool.eq_iff_iff, hb2]; simp [HS.out]
                  subst this
                  exact ⟨rfl, hbel⟩)
              go_wp2
              refine wp_region_quiet_below (by kernel_rfl) (by kernel_rfl) ?_
              repeat (quiet_step (exact hcall2 _ _))
              refine wpQuiet_nil ?_
              intro _ hw'
              obtain ⟨⟨dq, osq⟩, hw''⟩ := hw'
              subst hw''
              clear hcall2
              go_wp2
              go_quiet (fail)
              go_wp2
              go_ret
              exact ⟨false, rfl, ⟨(fun h => by cases h), fun h => absurd ((HSS.out.1 h).2.2 k x y hlt HG1.out.1.1 HG1.out.1.2) HS.out⟩, below_dn (hwr.trans ((below_regrown wr dq osq).mono hwr.size)) _⟩
          · have hkl : k = ov.length := by omega
            subst hkl
            go_wp2
            go_ret
            refine ⟨true, rfl, ⟨fun _ => HSS.out.2 ⟨⟨trivial, trivial, Q2.out, Q3.out, (letters_iff ks ks' (by have h1 := HKL.out; have h2 := Q4.out; omega)).2 ?_⟩, HTO.out, HT2.out.1⟩, fun _ => rfl⟩, hwr⟩
            have h1 := HKL.out.1
            rw [h1]
            exact HT2.out.2
end Go.Proofs.YtmmjkhkcffgeiaaDoor
