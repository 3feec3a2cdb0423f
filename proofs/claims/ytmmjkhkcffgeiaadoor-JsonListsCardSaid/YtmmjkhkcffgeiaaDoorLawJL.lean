/- JsonLists returns true. -/
import Derived.Test.YtmmjkhkcffgeiaaDoorJLawX
namespace Go.Proofs.YtmmjkhkcffgeiaaDoor
open Go Go.RowKit Go.Shelf
set_option linter.unusedVariables false
set_option linter.unusedSimpArgs false

theorem lst2_val {W : World} {b : Nat} {g h : GV} {L O L' O' : Value} (hw : Whole W b 31 (chunk g L O ++ chunk h L' O').toArray) (hA : LstV (fun _ => True) W L g.items ∧ ObjV (fun _ => True) W O g.keys g.vals) (hB : LstV (fun _ => True) W L' h.items ∧ ObjV (fun _ => True) W O' h.keys h.vals) :
    (GV.mk 4 0 ⟨#[]⟩ [g, h] [] []).val (fun _ => True) W (.agg #[.int .u8 4, .int .i64 0, .string ⟨#[]⟩, .slice (some ⟨b, 0, none⟩) 2 2, .slice none 0 0]) := by
  have hc : ∀ (j : Nat) (u : Value), (chunk g L O ++ chunk h L' O')[j]? = some u → W.cell? ⟨b, 0 + j, none⟩ = some u := fun j u hu => by rw [Nat.zero_add, hw.cell]; simpa using hu
  exact ⟨_, _, rfl, .inr ⟨b, 0, 2, rfl, Nat.le_refl _, by decide, hw.kind trivial, RowL.els (xs := chunk g L O ++ chunk h L' O') ⟨_, _, _, rfl, hA.1, hA.2, _, _, _, by simp, hB.1, hB.2, rfl⟩ hc⟩, rfl, .inl ⟨rfl, rfl⟩⟩
theorem lst2_good {g h : GV} (hg : g.Sound) (hh : h.Sound) : (GV.mk 4 0 ⟨#[]⟩ [g, h] [] []).Sound := by
  simp only [GV.Sound, GV.Sounds, and_true]
  exact ⟨⟨by simp, by simp, .inr ⟨by simp, by simp⟩, .inl rfl, .inr ⟨by simp, rfl⟩⟩, hg, hh⟩
theorem parts_of {ok : Nat → Prop} {W : World} {g : GV} {a b c L O : Value} (h : g.val ok W (.agg #[a, b, c, L, O])) : LstV ok W L g.items ∧ ObjV ok W O g.keys g.vals := by
  obtain ⟨L', O', e, hL, hO⟩ := h
  simp only [Value.agg.injEq, Array.mk.injEq, List.cons.injEq, and_true] at e
  obtain ⟨_, _, _, rfl, rfl⟩ := e
  exact ⟨hL, hO⟩
def lstG (g h : GV) : GV := .mk 4 0 ⟨#[]⟩ [g, h] [] []
def objG (g h : GV) : GV := .mk 5 0 ⟨#[]⟩ [] [⟨#[112]⟩, ⟨#[113]⟩] [g, h]
theorem obj2_val {W : World} {b : Nat} {g h : GV} {k k' : ByteArray} {L O L' O' : Value} (hw : Whole W b 45 ((.string k :: chunk g L O) ++ (.string k' :: chunk h L' O')).toArray) (hA : LstV (fun _ => True) W L g.items ∧ ObjV (fun _ => True) W O g.keys g.vals) (hB : LstV (fun _ => True) W L' h.items ∧ ObjV (fun _ => True) W O' h.keys h.vals) :
    (GV.mk 5 0 ⟨#[]⟩ [] [k, k'] [g, h]).val (fun _ => True) W (.agg #[.int .u8 5, .int .i64 0, .string ⟨#[]⟩, .slice none 0 0, .slice (some ⟨b, 0, none⟩) 2 2]) := by
  have hc : ∀ (j : Nat) (u : Value), ((.string k :: chunk g L O) ++ (.string k' :: chunk h L' O'))[j]? = some u → W.cell? ⟨b, 0 + j, none⟩ = some u := fun j u hu => by rw [Nat.zero_add, hw.cell]; simpa using hu
  have h1 := RowO.els (ok := fun _ => True) (W := W) (b := b) (ks := [k, k']) (ov := [g, h]) (xs := (.string k :: chunk g L O) ++ (.string k' :: chunk h L' O')) (off := 0) ⟨_, _, _, rfl, hA.1, hA.2, _, _, _, by simp, hB.1, hB.2, rfl⟩ hc
  exact ⟨_, _, rfl, .inl ⟨rfl, rfl⟩, rfl, .inr ⟨b, 0, 2, rfl, Nat.le_refl _, by decide, hw.kind trivial, h1.1, h1.2⟩⟩
theorem keysPQ : KeysOk [⟨#[112]⟩, ⟨#[113]⟩] := by
  have h0 : valid ⟨#[112]⟩ = true := by decide +kernel
  have h1 : valid ⟨#[113]⟩ = true := by decide +kernel
  have h2 : less' ⟨#[112]⟩ ⟨#[113]⟩ = true := by decide +kernel
  intro i k hi hk
  match i, hi with
  | 0, _ => simp at hk; subst hk; exact ⟨h0, fun j p hj => by omega⟩
  | 1, _ => simp at hk; subst hk; exact ⟨h1, fun j p hj hp => by have : j = 0 := by omega
                                                                 subst this; simp at hp; subst hp; exact h2⟩
theorem obj2_good {g h : GV} (hg : g.Sound) (hh : h.Sound) : (objG g h).Sound := by
  simp only [objG, GV.Sound, GV.Sounds, true_and, and_true]
  exact ⟨⟨by simp, by simp, .inr ⟨by simp, by simp⟩, .inr rfl, .inl ⟨rfl, keysPQ⟩⟩, hg, hh⟩
theorem lstG_good {g h : GV} (hg : g.Sound) (hh : h.Sound) : (lstG g h).Sound := lst2_good hg hh
theorem lstG_posN {g h : GV} (hg : g.PosN) (hh : h.PosN) : (lstG g h).PosN := by simp [lstG, GV.PosN, GV.PosNs]; exact ⟨hg, hh⟩
theorem objG_posN {g h : GV} (hg : g.PosN) (hh : h.PosN) : (objG g h).PosN := by simp [objG, GV.PosN, GV.PosNs]; exact ⟨hg, hh⟩
theorem lstG_fits {g h : GV} (hg : JV g) (hh : JV h) : Fits (lstG g h) := by
  have h1 := hg.deep; have h2 := hh.deep; have h3 := hg.mass; have h4 := hh.mass; have h5 := weight_mass g; have h6 := weight_mass h
  unfold Fits lstG
  simp only [GV.deep, GV.deeps, GV.weight, GV.weights, List.map_nil, List.sum_nil, show (⟨#[]⟩ : ByteArray).size = 0 from rfl]
  omega
theorem objG_fits {g h : GV} (hg : JV g) (hh : JV h) : Fits (objG g h) := by
  have h1 := hg.deep; have h2 := hh.deep; have h3 := hg.mass; have h4 := hh.mass; have h5 := weight_mass g; have h6 := weight_mass h
  unfold Fits objG
  simp only [GV.deep, GV.deeps, GV.weight, GV.weights, List.map_cons, List.sum_cons, List.map_nil, List.sum_nil, show (⟨#[]⟩ : ByteArray).size = 0 from rfl, show (⟨#[112]⟩ : ByteArray).size = 1 from rfl, show (⟨#[113]⟩ : ByteArray).size = 1 from rfl]
  omega
theorem lstG_str (g h : GV) : (⟨(lstG g h).enc.toArray⟩ : ByteArray) = ((⟨#[91]⟩ ++ ⟨g.enc.toArray⟩ ++ ⟨#[44]⟩) ++ ⟨h.enc.toArray⟩) ++ ⟨#[93]⟩ := ba_ext (by
  simp only [lstG, enc_4, encs_cons, encs_nil, ByteArray.data_append, Array.toList_append]
  simp)
theorem objG_str (g h : GV) : (⟨(objG g h).enc.toArray⟩ : ByteArray) = ((⟨#[123, 34, 112, 34, 58]⟩ ++ ⟨g.enc.toArray⟩ ++ ⟨#[44, 34, 113, 34, 58]⟩) ++ ⟨h.enc.toArray⟩) ++ ⟨#[125]⟩ := ba_ext (by
  have e1 : encText [112] = [34, 112, 34] := by decide
  have e2 : encText [113] = [34, 113, 34] := by decide
  simp only [objG, enc_5, encFs_cons, encFs_nil, e1, e2, ByteArray.data_append, Array.toList_append]
  simp)

set_option maxHeartbeats 4000000 in
set_option maxRecDepth 100000 in
theorem jlists_row (hi : Nat) (A : Option Addr) (cap : Nat) (ts : List GTok) (A2 : Option Addr) (cap2 : Nat) (us : List GTok) (w : World) (hcap : ts.length ≤ cap) (hm : cap ≤ maxLen) (hcap2 : us.length ≤ cap2) (hm2 : cap2 ≤ maxLen) (hhi : hi ≤ w.heap.size) (hT : Toks hi w A ts) (hT2 : Toks hi w A2 us)
    (hr : ∀ t ∈ ts, 0 ≤ t.k ∧ t.k ≤ 255 ∧ 0 ≤ t.m ∧ t.m ≤ 255) (hss : ∀ t ∈ ts, t.s.size ≤ 140737488351232) (hr2 : ∀ t ∈ us, 0 ≤ t.k ∧ t.k ≤ 255 ∧ 0 ≤ t.m ∧ t.m ≤ 255) (hss2 : ∀ t ∈ us, t.s.size ≤ 140737488351232) (h : JT w) :
    Calls Tryd.prog 9 #[.slice A ts.length cap, .slice A2 us.length cap2] w (TrueOut w) := by
  have HH := Lib.hid (heavyj_any hi A cap ts w hT (Nat.le_trans hcap hm) hss)
  have HH2 := Lib.hid (heavyj_any hi A2 cap2 us w hT2 (Nat.le_trans hcap2 hm2) hss2)
  have HK := Lib.hid (jknown_true w h)
  have HJ := Lib.hid h
  have HB := Lib.hid (fun W hb => build_j hi A cap ts w W hcap hm hhi hT hr hss hb)
  have HB2 := Lib.hid (fun W hb => build_j hi A2 cap2 us w W hcap2 hm2 hhi hT2 hr2 hss2 hb)
  clear hcap hm hhi hT hr hss h hcap2 hm2 hT2 hr2 hss2
  go_enter Tryd.func9, Tryd.ntmps9
  go_wp2_with (first
    | (go_at_call 13; (with_reducible refine HH.out.mono ?_); rintro e w1 ⟨b, rfl, rfl, hb⟩; clear hb HH; cases b)
    | (go_at_call 13; (with_reducible refine HH2.out.mono ?_); rintro e w1 ⟨b, rfl, rfl, hb⟩; clear hb HH2; cases b)
    | (go_at_call 10; (with_reducible refine HK.out.mono ?_); rintro e w1 ⟨rfl, hb⟩; have H1 := Lib.hid hb; clear hb)
    | (go_at_call 16; (with_reducible refine (HB.out _ H1.out).mono ?_); rintro e w2 ⟨g, BL, dL, BO, dO, rfl, hL, hO, hj, hb⟩; have H2 := Lib.hid (And.intro (below_next H1.out hb) (And.intro hL (And.intro hO hj))); clear hb hL hO hj HB)
    | (go_at_call 16; (with_reducible refine (HB2.out _ (below_new H2.out.1 _)).mono ?_); rintro e w3 ⟨h, CL, eL, CO, eO, rfl, hL, hO, hj, hb⟩; have hx := (Whole.new w2 31 #[.int .u8 g.kind, .int .i64 g.num, .string g.str, .slice BL g.items.length dL, .slice BO g.vals.length dO]).below hb (by simp); have q := fun o => (hx.alloc o).five; have b0 := fun o => (q o).c0; have b1 := fun o => (q o).c1; have b2 := fun o => (q o).c2; have b3 := fun o => (q o).c3; have b4 := fun o => (q o).c4; have H3 := Lib.hid (And.intro (below_then H2.out.1 hb) (And.intro hL (And.intro hO (And.intro hj (And.intro (hx.alloc (.cells #[.int .u8 h.kind, .int .i64 h.num, .string h.str, .slice CL h.items.length eL, .slice CO h.vals.length eO] 31)) (val_later (val_later (val_here H2.out.2.1 H2.out.2.2.1) hb) (below_alloc0 w3 (.cells #[.int .u8 h.kind, .int .i64 h.num, .string h.str, .slice CL h.items.length eL, .slice CO h.vals.length eO] 31)))))))); clear hb hL hO hj hx q)
    | (go_at_call 11; (with_reducible refine (enc_is (fun _ => True) _ g _ (HJ.out.below (below_new H3.out.1 _)) H3.out.2.2.2.2.2 H2.out.2.2.2.posN H2.out.2.2.2.snd H2.out.2.2.2.fits).mono ?_); rintro e w4 ⟨rfl, hb⟩; clear b0 b1 b2 b3 b4; have hx := H3.out.2.2.2.2.1.below hb H3.out.2.2.2.2.1.lt; have hy := (Whole.new w3 31 #[.int .u8 h.kind, .int .i64 h.num, .string h.str, .slice CL h.items.length eL, .slice CO h.vals.length eO]).below hb (by simp); obtain ⟨b0, b1, b2, b3, b4, _⟩ := hx.five; obtain ⟨c0, c1, c2, c3, c4, _⟩ := hy.five; have H4 := Lib.hid (And.intro (below_then H3.out.1 hb) (And.intro hx (And.intro hy (And.intro (val_later H3.out.2.2.2.2.2 hb) (val_later (val_here H3.out.2.1 H3.out.2.2.1) hb))))); clear hb hx hy)
    | (go_at_call 11; ((with_reducible refine (enc_is (fun _ => True) _ h _ (HJ.out.below H4.out.1) H4.out.2.2.2.2 H3.out.2.2.2.1.posN H3.out.2.2.2.1.snd H3.out.2.2.2.1.fits).mono ?_); rintro e w5 ⟨rfl, hb⟩; clear b0 b1 b2 b3 b4 c0 c1 c2 c3 c4; have hx := H4.out.2.1.below hb H4.out.2.1.lt; have hy := H4.out.2.2.1.below hb H4.out.2.2.1.lt; obtain ⟨b0, b1, b2, b3, b4, _⟩ := hx.five; obtain ⟨c0, c1, c2, c3, c4, _⟩ := hy.five; have H5 := Lib.hid (And.intro (below_next H4.out.1 hb) (And.intro (val_later H4.out.2.2.2.1 hb) (And.intro (val_later H4.out.2.2.2.2 hb) (And.intro hx hy)))); have HJ2 := H2.out.2.2.2; have HJ3 := H3.out.2.2.2.1; have hA := parts_of (val_later (val_later H4.out.2.2.2.1 hb) (below_alloc0 w5 (.cells #[.int .u8 g.kind, .int .i64 g.num, .string g.str, .slice BL g.items.length dL, .slice BO g.vals.length dO, .int .u8 h.kind, .int .i64 h.num, .string h.str, .slice CL h.items.length eL, .slice CO h.vals.length eO] 31))); have hB := parts_of (val_later (val_later H4.out.2.2.2.2 hb) (below_alloc0 w5 (.cells #[.int .u8 g.kind, .int .i64 g.num, .string g.str, .slice BL g.items.length dL, .slice BO g.vals.length dO, .int .u8 h.kind, .int .i64 h.num, .string h.str, .slice CL h.items.length eL, .slice CO h.vals.length eO] 31))); have hlv : (lstG g h).val (fun _ => True) _ _ := lst2_val (b := w5.heap.size) (g := g) (h := h) (Whole.new w5 31 #[.int .u8 g.kind, .int .i64 g.num, .string g.str, .slice BL g.items.length dL, .slice BO g.vals.length dO, .int .u8 h.kind, .int .i64 h.num, .string h.str, .slice CL h.items.length eL, .slice CO h.vals.length eO]) hA hB; have k1 := HJ2.long; have k2 := HJ3.long; have q1 : ¬ 9223372036854775807 < 1 + g.enc.length := (by omega); have q2 : ¬ 9223372036854775807 < 1 + g.enc.length + 1 := (by omega); have q3 : ¬ 9223372036854775807 < 1 + g.enc.length + 1 + h.enc.length := (by omega); have q4 : ¬ 9223372036854775807 < 1 + g.enc.length + 1 + h.enc.length + 1 := (by omega); have q5 : ¬ 9223372036854775807 < 5 + g.enc.length := (by omega); have q6 : ¬ 9223372036854775807 < 5 + g.enc.length + 5 := (by omega); have q7 : ¬ 9223372036854775807 < 5 + g.enc.length + 5 + h.enc.length := (by omega); have q8 : ¬ 9223372036854775807 < 5 + g.enc.length + 5 + h.enc.length + 1 := (by omega); clear k1 k2; have HLV := Lib.hid (And.intro hlv (And.intro HJ2 HJ3)); clear hA hB hlv HJ2 HJ3; clear hb hx hy))
    | (go_at_call 11; ((with_reducible refine (enc_is (fun _ => True) _ (lstG g h) _ (HJ.out.below (below_new H5.out.1 _)) HLV.out.1 (lstG_posN HLV.out.2.1.posN HLV.out.2.2.posN) (lstG_good HLV.out.2.1.snd HLV.out.2.2.snd) (lstG_fits HLV.out.2.1 HLV.out.2.2)).mono ?_); rintro e w6 ⟨he, hb⟩; rw [lstG_str] at he; subst he; clear b0 b1 b2 b3 b4 c0 c1 c2 c3 c4; have hx := (H5.out.2.2.2.1.alloc _).below hb (by have := H5.out.2.2.2.1.lt; simp; omega); have hy := (H5.out.2.2.2.2.alloc _).below hb (by have := H5.out.2.2.2.2.lt; simp; omega); obtain ⟨b0, b1, b2, b3, b4, _⟩ := hx.five; obtain ⟨c0, c1, c2, c3, c4, _⟩ := hy.five; have hA := parts_of (val_later (val_later (val_later H5.out.2.1 (below_alloc0 w5 _)) hb) (below_alloc0 w6 (.cells #[.string ⟨#[112]⟩, .int .u8 g.kind, .int .i64 g.num, .string g.str, .slice BL g.items.length dL, .slice BO g.vals.length dO, .string ⟨#[113]⟩, .int .u8 h.kind, .int .i64 h.num, .string h.str, .slice CL h.items.length eL, .slice CO h.vals.length eO] 45))); have hB := parts_of (val_later (val_later (val_later H5.out.2.2.1 (below_alloc0 w5 _)) hb) (below_alloc0 w6 (.cells #[.string ⟨#[112]⟩, .int .u8 g.kind, .int .i64 g.num, .string g.str, .slice BL g.items.length dL, .slice BO g.vals.length dO, .string ⟨#[113]⟩, .int .u8 h.kind, .int .i64 h.num, .string h.str, .slice CL h.items.length eL, .slice CO h.vals.length eO] 45))); have hov : (objG g h).val (fun _ => True) _ _ := obj2_val (b := w6.heap.size) (g := g) (h := h) (k := ⟨#[112]⟩) (k' := ⟨#[113]⟩) (Whole.new w6 45 #[.string ⟨#[112]⟩, .int .u8 g.kind, .int .i64 g.num, .string g.str, .slice BL g.items.length dL, .slice BO g.vals.length dO, .string ⟨#[113]⟩, .int .u8 h.kind, .int .i64 h.num, .string h.str, .slice CL h.items.length eL, .slice CO h.vals.length eO]) hA hB; have H6 := Lib.hid (And.intro (below_then H5.out.1 hb) hov); clear hb hx hy hA hB hov))
    | (go_at_call 11; ((with_reducible refine (enc_is (fun _ => True) _ (objG g h) _ (HJ.out.below (below_new H6.out.1 _)) H6.out.2 (objG_posN HLV.out.2.1.posN HLV.out.2.2.posN) (obj2_good HLV.out.2.1.snd HLV.out.2.2.snd) (objG_fits HLV.out.2.1 HLV.out.2.2)).mono ?_); rintro e w7 ⟨he, hb⟩; rw [objG_str] at he; subst he; have H7 := Lib.hid (below_then H6.out.1 hb); clear hb)))
  all_goals go_ret
  all_goals first
    | exact ⟨rfl, H7.out⟩
    | exact ⟨rfl, H1.out⟩
end Go.Proofs.YtmmjkhkcffgeiaaDoor
