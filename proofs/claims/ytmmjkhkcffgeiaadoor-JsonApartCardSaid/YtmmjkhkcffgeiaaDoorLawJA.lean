/- JsonApart returns true. -/
import Derived.Test.YtmmjkhkcffgeiaaDoorJLawX
namespace Go.Proofs.YtmmjkhkcffgeiaaDoor
open Go Go.RowKit Go.Shelf
set_option linter.unusedVariables false
set_option linter.unusedSimpArgs false

theorem bytes_is {a b : ByteArray} (h : a.toList = b.toList) : a = b := by
  rw [ByteArray.toList_eq, ByteArray.toList_eq] at h
  exact ba_ext h
theorem letters_is : ∀ {ks kt : List ByteArray}, letters ks = letters kt → ks = kt
  | [], [], _ => rfl
  | k :: ks, t :: kt, h => by
    simp only [letters, List.map_cons, List.cons.injEq] at h
    rw [bytes_is h.1, letters_is (ks := ks) (kt := kt) h.2]
  | [], _ :: _, h => by simp [letters] at h
  | _ :: _, [], h => by simp [letters] at h
mutual
/-- Two values that are the same are one. -/
theorem same_one : ∀ (g h : GV), g.RS → h.RS → g.Same h → g = h
  | .mk k n s l ks ov, .mk k' n' s' l' ks' ov', hg, hh, hs => by
    simp only [GV.RS] at hg hh
    simp only [GV.Same, SameSelf, GV.kind, GV.num, GV.str, GV.items, GV.keys, GV.vals] at hs
    obtain ⟨⟨rfl, rfl, h3, h4, h5⟩, h6, h7⟩ := hs
    have e1 := bytes_is h3
    have e2 := letters_is h5
    subst e1 e2
    have e3 := sames_one l l' h4 hg.2.1 hh.2.1 h6
    have e4 := sames_one ov ov' (by have := hg.1.2.2.2.2.2; have := hh.1.2.2.2.2.2; omega) hg.2.2 hh.2.2 h7
    rw [e3, e4]
theorem sames_one : ∀ (l l' : List GV), l.length = l'.length → GV.RSs l → GV.RSs l' → GV.Sames l l' → l = l'
  | [], [], _, _, _, _ => rfl
  | g :: r, h :: q, hl, hg, hh, hs => by
    simp only [GV.RSs] at hg hh
    simp only [GV.Sames] at hs
    rw [same_one g h hg.1 hh.1 hs.1, sames_one r q (by simpa using hl) hg.2 hh.2 hs.2]
  | [], _ :: _, hl, _, _, _ => by simp at hl
  | _ :: _, [], hl, _, _, _ => by simp at hl
end
theorem enc_one {g h : GV} (hg : g.RS) (hh : h.RS) (e : g.enc = h.enc) : g = h :=
  (enc_apart g h [] [] hg hh (fun _ c h => by cases h) (fun _ c h => by cases h) (by rw [e])).1
/-- Same of two values that are not one. -/
def FalseOut (w : World) (e : Ending) (w' : World) : Prop := e = .returned (.bool false) ∧ Below w.heap.size w w'
theorem same_not (ok : Nat → Prop) (v v' : Value) (g h : GV) (w : World) (hv : g.val ok w v) (hv' : h.val ok w v') (hg : JV g) (hh : JV h) (hn : g ≠ h) : Calls Tryd.prog 17 #[v, v'] w (FalseOut w) :=
  (ref_Same g.size ok v v' g h w (Nat.le_refl _) hv hv' hg.sizeG hh.sizeG).mono fun e w' hh2 => by
    obtain ⟨b, he, hb, hw⟩ := hh2
    have : b = false := by
      cases b
      · rfl
      · exact absurd (same_one g h hg.rs hh.rs (hb.1 rfl)) hn
    exact ⟨by rw [he, this], hw⟩
set_option maxHeartbeats 4000000 in
set_option maxRecDepth 100000 in
theorem japart_row (hi : Nat) (A : Option Addr) (cap : Nat) (ts : List GTok) (A2 : Option Addr) (cap2 : Nat) (us : List GTok) (w : World) (hcap : ts.length ≤ cap) (hm : cap ≤ maxLen) (hcap2 : us.length ≤ cap2) (hm2 : cap2 ≤ maxLen) (hhi : hi ≤ w.heap.size) (hT : Toks hi w A ts) (hT2 : Toks hi w A2 us)
    (hr : ∀ t ∈ ts, 0 ≤ t.k ∧ t.k ≤ 255 ∧ 0 ≤ t.m ∧ t.m ≤ 255) (hss : ∀ t ∈ ts, t.s.size ≤ 140737488351232) (hr2 : ∀ t ∈ us, 0 ≤ t.k ∧ t.k ≤ 255 ∧ 0 ≤ t.m ∧ t.m ≤ 255) (hss2 : ∀ t ∈ us, t.s.size ≤ 140737488351232) (h : JT w) :
    Calls Tryd.prog 7 #[.slice A ts.length cap, .slice A2 us.length cap2] w (TrueOut w) := by
  have HH := Lib.hid (heavyj_any hi A cap ts w hT (Nat.le_trans hcap hm) hss)
  have HH2 := Lib.hid (heavyj_any hi A2 cap2 us w hT2 (Nat.le_trans hcap2 hm2) hss2)
  have HK := Lib.hid (jknown_true w h)
  have HJ := Lib.hid h
  have HB := Lib.hid (fun W hb => build_j hi A cap ts w W hcap hm hhi hT hr hss hb)
  have HB2 := Lib.hid (fun W hb => build_j hi A2 cap2 us w W hcap2 hm2 hhi hT2 hr2 hss2 hb)
  clear hcap hm hhi hT hr hss h hcap2 hm2 hT2 hr2 hss2
  go_enter Tryd.func7, Tryd.ntmps7
  go_wp2_with (first
    | (go_at_call 13; (with_reducible refine HH.out.mono ?_); rintro e w1 ⟨b, rfl, rfl, hb⟩; clear hb HH; cases b)
    | (go_at_call 13; (with_reducible refine HH2.out.mono ?_); rintro e w1 ⟨b, rfl, rfl, hb⟩; clear hb HH2; cases b)
    | (go_at_call 10; (with_reducible refine HK.out.mono ?_); rintro e w1 ⟨rfl, hb⟩; have H1 := Lib.hid hb; clear hb)
    | (go_at_call 16; (with_reducible refine (HB.out _ H1.out).mono ?_); rintro e w2 ⟨g, BL, dL, BO, dO, rfl, hL, hO, hj, hb⟩; have H2 := Lib.hid (And.intro (below_next H1.out hb) (And.intro hL (And.intro hO hj))); clear hb hL hO hj HB)
    | (go_at_call 16; (with_reducible refine (HB2.out _ (below_new H2.out.1 _)).mono ?_); rintro e w3 ⟨h, CL, eL, CO, eO, rfl, hL, hO, hj, hb⟩; have hx := (Whole.new w2 31 #[.int .u8 g.kind, .int .i64 g.num, .string g.str, .slice BL g.items.length dL, .slice BO g.vals.length dO]).below hb (by simp); have q := fun o => (hx.alloc o).five; have b0 := fun o => (q o).c0; have b1 := fun o => (q o).c1; have b2 := fun o => (q o).c2; have b3 := fun o => (q o).c3; have b4 := fun o => (q o).c4; have H3 := Lib.hid (And.intro (below_then H2.out.1 hb) (And.intro hL (And.intro hO (And.intro hj (And.intro (hx.alloc (.cells #[.int .u8 h.kind, .int .i64 h.num, .string h.str, .slice CL h.items.length eL, .slice CO h.vals.length eO] 31)) (val_later (val_later (val_here H2.out.2.1 H2.out.2.2.1) hb) (below_alloc0 w3 (.cells #[.int .u8 h.kind, .int .i64 h.num, .string h.str, .slice CL h.items.length eL, .slice CO h.vals.length eO] 31)))))))); clear hb hL hO hj hx q)
    | (go_at_call 11; (with_reducible refine (enc_is (fun _ => True) _ g _ (HJ.out.below (below_new H3.out.1 _)) H3.out.2.2.2.2.2 H2.out.2.2.2.posN H2.out.2.2.2.snd H2.out.2.2.2.fits).mono ?_); rintro e w4 ⟨rfl, hb⟩; clear b0 b1 b2 b3 b4; have hx := H3.out.2.2.2.2.1.below hb H3.out.2.2.2.2.1.lt; have hy := (Whole.new w3 31 #[.int .u8 h.kind, .int .i64 h.num, .string h.str, .slice CL h.items.length eL, .slice CO h.vals.length eO]).below hb (by simp); obtain ⟨b0, b1, b2, b3, b4, _⟩ := hx.five; obtain ⟨c0, c1, c2, c3, c4, _⟩ := hy.five; have H4 := Lib.hid (And.intro (below_then H3.out.1 hb) (And.intro hx (And.intro hy (And.intro (val_later H3.out.2.2.2.2.2 hb) (val_later (val_here H3.out.2.1 H3.out.2.2.1) hb))))); clear hb hx hy)
    | (go_at_call 11; ((with_reducible refine (enc_is (fun _ => True) _ h _ (HJ.out.below H4.out.1) H4.out.2.2.2.2 H3.out.2.2.2.1.posN H3.out.2.2.2.1.snd H3.out.2.2.2.1.fits).mono ?_); rintro e w5 ⟨rfl, hb⟩; clear b0 b1 b2 b3 b4 c0 c1 c2 c3 c4; have hx := H4.out.2.1.below hb H4.out.2.1.lt; have hy := H4.out.2.2.1.below hb H4.out.2.2.1.lt; obtain ⟨b0, b1, b2, b3, b4, _⟩ := hx.five; obtain ⟨c0, c1, c2, c3, c4, _⟩ := hy.five; have H5 := Lib.hid (And.intro (below_next H4.out.1 hb) (And.intro (val_later H4.out.2.2.2.1 hb) (val_later H4.out.2.2.2.2 hb))); clear hb hx hy; rcases Classical.em (g = h) with heq | hne; rotate_left; (have hne1 : (g.enc == h.enc) = false := (by simpa using fun e => hne (enc_one H2.out.2.2.2.rs H3.out.2.2.2.1.rs e)); have HNE := Lib.hid hne; clear hne); rotate_left; (subst heq; have HEQ := Lib.hid trivial)))
    | (go_at_call 17; (with_reducible refine (same_is (fun _ => True) _ _ _ _ H5.out.2.1 H5.out.2.2 H2.out.2.2.2.sizeG).mono ?_); rintro e w6 ⟨rfl, hb⟩; have H6 := Lib.hid (below_next H5.out.1 hb); clear hb)
    | (go_at_call 17; (with_reducible refine (same_not (fun _ => True) _ _ _ _ _ H5.out.2.1 H5.out.2.2 H2.out.2.2.2 H3.out.2.2.2.1 HNE.out).mono ?_); rintro e w6 ⟨rfl, hb⟩; have H6 := Lib.hid (below_next H5.out.1 hb); clear hb))
  all_goals go_ret
  all_goals first
    | exact ⟨rfl, H6.out⟩
    | exact ⟨rfl, H1.out⟩
end Go.Proofs.YtmmjkhkcffgeiaaDoor
