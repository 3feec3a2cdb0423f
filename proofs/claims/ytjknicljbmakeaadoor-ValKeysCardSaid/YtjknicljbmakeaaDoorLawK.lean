/- ValKeys, the Go function: it comes out true. -/
import Derived.Test.YtjknicljbmakeaaDoorLawF
import Derived.Test.YtjknicljbmakeaaDoorLawS
import Derived.Test.YtjknicljbmakeaaDoorLawO
import Derived.Test.YtjknicljbmakeaaDoorBuild
import Derived.Deep.DeepCutAuto
import Derived.Sort.Walk0
namespace Go.Proofs.YtjknicljbmakeaaDoor
open Go Go.RowKit Go.Shelf Go.Sort

theorem field_val {ok : Nat → Prop} {W : World} {b : Nat} (hb : ok b) {g : GV} {k : ByteArray} {L O : Value} (hw : Whole W b 36 (.string k :: chunk g L O).toArray) (hA : LstV ok W L g.items ∧ ObjV ok W O g.keys g.vals) :
    ObjV ok W (.slice (some ⟨b, 0, none⟩) 1 1) [k] [g] := by
  have hc : ∀ (j : Nat) (u : Value), (.string k :: chunk g L O)[j]? = some u → W.cell? ⟨b, 0 + j, none⟩ = some u := fun j u hu => by rw [Nat.zero_add, hw.cell]; simpa using hu
  have h1 := RowO.els (ok := ok) (W := W) (b := b) (ks := [k]) (ov := [g]) (xs := .string k :: chunk g L O) (off := 0) ⟨_, _, _, by simp, hA.1, hA.2, rfl⟩ hc
  exact ⟨rfl, .inr ⟨b, 0, 1, rfl, Nat.le_refl _, by decide, hw.kind hb, h1.1, h1.2⟩⟩
theorem field_good {g : GV} {k : ByteArray} (hg : g.Sound) (hk : valid k = true) : (GV.mk 5 0 ⟨#[]⟩ [] [k] [g]).Sound := by
  simp only [GV.Sound, GV.Sounds, true_and, and_true]
  refine ⟨⟨by simp, by simp, .inr ⟨by simp, by simp⟩, .inr rfl, .inl ⟨rfl, fun i x hi hx => ?_⟩⟩, hg⟩
  have hi0 : i = 0 := by simpa using hi
  subst hi0
  simp at hx
  subst hx
  exact ⟨hk, fun j p e => by omega⟩
theorem bl_trans {x y z : List UInt8} (h1 : Op.bytesLess x y = true) (h2 : Op.bytesLess y z = true) : Op.bytesLess x z = true := by
  rw [bytesLess_eq] at *
  simp only [decide_eq_true_eq] at *
  exact List.lt_trans h1 h2
theorem bl_asymm {x y : List UInt8} (h1 : Op.bytesLess x y = true) : Op.bytesLess y x = false ∧ (x == y) = false ∧ (y == x) = false := by
  have h2 := leq_less y x
  rw [h1] at h2
  have h3 : Op.bytesLess y x = false ∧ (y == x) = false := by simpa using h2
  refine ⟨h3.1, ?_, h3.2⟩
  have : ¬ y = x := by simpa using h3.2
  simpa using fun e => this e.symm
/-- The place k of rising keys, as the walk asks for it. -/
theorem keys_at (key : ByteArray) {ks : List ByteArray} (h : KeysOk ks) (i : Nat) (x : ByteArray) (hx : ks[i]? = some x) :
    (i < place key ks ∧ Op.bytesLess x.toList key.toList = true ∧ (x.toList == key.toList) = false ∧ ((i : Int) == (place key ks : Int)) = false ∧ (i == place key ks) = false) ∨
    (i = place key ks ∧ Op.bytesLess x.toList key.toList = false ∧ (x.toList == key.toList) = there key ks) ∨
    (¬ i < place key ks ∧ Op.bytesLess x.toList key.toList = false ∧ (x.toList == key.toList) = false ∧ ((i : Int) == (place key ks : Int)) = false ∧ (i == place key ks) = false) := by
  have hlen : ∀ j y, ks[j]? = some y → j < ks.length := fun j y hy => (List.getElem?_eq_some_iff.1 hy).1
  rcases Nat.lt_trichotomy i (place key ks) with hi | hi | hi
  · have hl := place_lt key ks i x hx hi
    exact .inl ⟨hi, hl, (bl_asymm hl).2.1, by simp; omega, by simp; omega⟩
  · subst hi
    exact .inr (.inl ⟨rfl, place_stop key ks x hx, by unfold there; rw [hx]⟩)
  · have habove : ∀ j y, place key ks < j → ks[j]? = some y → Op.bytesLess key.toList y.toList = true := by
      intro j
      induction j with
      | zero => intro y hj; omega
      | succ j ih =>
        intro y hj hy
        have hjl := hlen _ _ hy
        obtain ⟨z, hz⟩ : ∃ z, ks[j]? = some z := ⟨ks[j]'(by omega), List.getElem?_eq_getElem (by omega)⟩
        have hzy : Op.bytesLess z.toList y.toList = true := (h (j + 1) y hjl hy).2 j z rfl hz
        by_cases e : j = place key ks
        · have hst : Op.bytesLess z.toList key.toList = false := place_stop key ks z (by rw [← e]; exact hz)
          have h2 := leq_less key.toList z.toList
          rw [hst] at h2
          have h3 : Op.bytesLess key.toList z.toList = true ∨ key.toList = z.toList := by simpa using h2
          rcases h3 with h3 | h3
          · exact bl_trans h3 hzy
          · rw [h3]; exact hzy
        · exact bl_trans (ih z (by omega) hz) hzy
    have ha := bl_asymm (habove i x hi hx)
    exact .inr (.inr ⟨by omega, ha.1, ha.2.2, by simp; omega, by simp; omega⟩)
/-- The object with one field more. -/
def newG (o : GV) (key : ByteArray) (m : GV) : GV := .mk o.kind o.num o.str o.items (insK key o.keys) (insV key o.keys o.vals m)
theorem newG_good {o m : GV} {key : ByteArray} (ho : o.Sound) (h5 : o.kind = 5) (hk : KeysOk o.keys) (hm : m.Sound) (hv : valid key = true) : (newG o key m).Sound := by
  cases o with | mk k n s l ks ov =>
    simp only [GV.kind, GV.keys] at h5 hk
    subst h5
    simp only [newG, GV.Sound, GV.kind, GV.num, GV.str, GV.items, GV.keys, GV.vals, SelfP] at ho ⊢
    refine ⟨⟨ho.1.1, ho.1.2.1, ho.1.2.2.1, ho.1.2.2.2.1, .inl ⟨trivial, insK_ok hk hv⟩⟩, ho.2.1, (sounds_iff _).2 fun x hx => ?_⟩
    rcases insV_mem hx with rfl | hx
    · exact hm
    · exact (sounds_iff _).1 ho.2.2 x hx
theorem newG_weight (o m : GV) (key : ByteArray) : (newG o key m).weight ≤ o.weight + key.size + m.weight := by
  have h1 := insV_weights key o.keys o.vals m
  have h2 := insK_ksum key o.keys
  cases o with | mk k n s l ks ov =>
    simp only [newG, GV.weight, GV.str, GV.items, GV.keys, GV.vals, ksum] at *
    omega
theorem there_ins (key : ByteArray) (ks : List ByteArray) : there key (insK key ks) = true := by
  have hp := place_le key ks
  have hirr : less key key = false := by
    unfold less
    cases h : Op.bytesLess key.toList key.toList with
    | false => rfl
    | true => rw [(bl_asymm h).1] at h; cases h
  have hlen : place key ks ≤ (insK key ks).length := by unfold insK; simp; omega
  have e : place key (insK key ks) = place key ks := by
    refine place_eq key _ _ hlen (fun i k hk hi => ?_) (fun k hk => ?_)
    · rw [insK_get, if_pos hi] at hk
      exact place_lt key ks i k hk hi
    · rw [insK_get, if_neg (by omega), if_pos rfl] at hk
      cases hk
      exact hirr
  unfold there
  rw [e, insK_get, if_neg (by omega), if_pos rfl]
  simp
/-- The variable v, with one field more. -/
def VarNew (w : World) (b : Nat) (o : GV) (CL : Option Addr) (eL : Nat) (key : ByteArray) (v : Value) (wd : World) : Prop := ∃ (m : GV) (N : Option Addr) (c : Nat), v = .pointer (some ⟨b, 0, none⟩) ∧ Below w.heap.size w wd ∧
  Whole wd b 28 #[.int .u8 o.kind, .int .i64 o.num, .string o.str, .slice CL o.items.length eL, .slice N (insV key o.keys o.vals m).length c] ∧
  LstV (fun _ => True) wd (.slice CL o.items.length eL) o.items ∧ ObjV (fun _ => True) wd (.slice N (insV key o.keys o.vals m).length c) (insK key o.keys) (insV key o.keys o.vals m) ∧ m.Sound ∧ m.weight ≤ 6000
/-- The variable v, an object. -/
def VarAt (w : World) (b : Nat) (v : Value) (wc : World) : Prop := ∃ (g : GV) (BL BO : Option Addr) (dL dO : Nat), v = .pointer (some ⟨b, 0, none⟩) ∧ Below w.heap.size w wc ∧
  Whole wc b 28 #[.int .u8 g.kind, .int .i64 g.num, .string g.str, .slice BL g.items.length dL, .slice BO g.vals.length dO] ∧
  LstV (fun k => k ≠ b) wc (.slice BL g.items.length dL) g.items ∧ ObjV (fun k => k ≠ b) wc (.slice BO g.vals.length dO) g.keys g.vals ∧ g.Sound ∧ g.kind = 5 ∧ g.weight ≤ 7000

set_option maxRecDepth 100000 in
set_option maxHeartbeats 8000000 in
theorem keys_true (hi : Nat) (A : Option Addr) (cap : Nat) (ts : List GTok) (key : ByteArray) (A' : Option Addr) (cap' : Nat) (ts' : List GTok) (w : World) (hcap : ts.length ≤ cap) (hm : cap ≤ maxLen) (hcap' : ts'.length ≤ cap') (hm' : cap' ≤ maxLen) (hhi : hi ≤ w.heap.size) (hT : Toks hi w A ts) (hT' : Toks hi w A' ts')
    (hr : ∀ t ∈ ts, 0 ≤ t.k ∧ t.k ≤ 255 ∧ 0 ≤ t.m ∧ t.m ≤ 255) (hss : ∀ t ∈ ts, t.s.size ≤ 140737488351232) (hr' : ∀ t ∈ ts', 0 ≤ t.k ∧ t.k ≤ 255 ∧ 0 ≤ t.m ∧ t.m ≤ 255) (hss' : ∀ t ∈ ts', t.s.size ≤ 140737488351232) (hk : key.size ≤ 281474976710656) (hU : Tabs w) :
    Calls Tryd.prog 8 #[.slice A ts.length cap, .string key, .slice A' ts'.length cap'] w (TrueBelow w) := by
  have hheavy := heavy_any hi A cap ts w hT (by omega) hss
  have hheavy' := heavy_any hi A' cap' ts' w hT' (by omega) hss'
  have hbuild : ts.length ≤ 200 → ∀ W, Below w.heap.size w W → Calls Tryd.prog 31 #[.slice A ts.length cap] W (BuildOut W) := fun h W hb => Build_any hi A cap ts W hcap hm h (by have := hb.size; omega) (hT.keep (hb.mono hhi) (Nat.le_refl _)) hr hss
  have hbuild' : ts'.length ≤ 200 → ∀ W, Below w.heap.size w W → Calls Tryd.prog 31 #[.slice A' ts'.length cap'] W (BuildOut W) := fun h W hb => Build_any hi A' cap' ts' W hcap' hm' h (by have := hb.size; omega) (hT'.keep (hb.mono hhi) (Nat.le_refl _)) hr' hss'
  have HBUILD := Lib.hid (And.intro hbuild hbuild')
  have HHEAVY := Lib.hid (And.intro hheavy hheavy')
  have HU := Lib.hid hU
  clear hbuild hheavy hbuild' hheavy' hU hT hr hss hT' hr' hss'
  generalize hn : ts.length = n at *
  generalize hn' : ts'.length = n' at *
  have HN := Lib.hid (And.intro hn hn')
  clear hn hn'
  go_enter Tryd.func8, Tryd.ntmps8
  go_upto_region 4 with (first | (go_at_call 16; refine HB0.out.mono ?_; rintro e w' ⟨b', rfl, rfl, hb'⟩; have HB' := Lib.hid hb'; clear hb') | (go_at_call 16; refine HHEAVY.out.1.mono ?_; rintro e w' ⟨b, rfl, rfl, hb⟩; have HB := Lib.hid hb; clear hb; have HB0 := Lib.hid HHEAVY.out.2) | (go_at_call 17; refine (known_true _ HU.out).mono ?_; rintro e W1 ⟨rfl, hb1⟩; have HB1 := Lib.hid hb1; clear hb1) | (go_at_call 31; refine (HBUILD.out.1 (by have := (HB.out (by simpa using ‹¬ b = true›)).1; have := HN.out; omega) _ HB1.out).mono ?_; rintro e W2 ⟨g, v, rfl, ⟨L, O, rfl, hL, hO⟩, hgd, hw, hb2⟩; obtain ⟨BL, dL, rfl⟩ := lst_form hL; obtain ⟨BO, dO, rfl⟩ := obj_form hO; have HV := Lib.hid (And.intro hL hO); have HB2 := Lib.hid (HB1.out.trans (hb2.mono (HB1.out.size))); have HW := Lib.hid (And.intro hgd hw); clear hL hO hw hb2 hgd))
  · refine bodyPost_ret (v := .bool true) (by simp [results, Tryd.results8, go_sem]) rfl ?_
    exact ⟨rfl, HB1.out⟩
  · refine bodyPost_ret (v := .bool true) (by simp [results, Tryd.results8, go_sem]) rfl ?_
    exact ⟨rfl, HB1.out⟩
  rotate_left
  · refine bodyPost_ret (v := .bool true) (by simp [results, Tryd.results8, go_sem]) rfl ?_
    exact ⟨rfl, HB1.out⟩
  go_upto_if 33 with fail
  have s2 : w.heap.size ≤ W2.heap.size := HB2.out.size
  have dW : Below w.heap.size w (W2.alloc (.cells #[.int .u8 g.kind, .int .i64 g.num, .string g.str, .slice BL g.items.length dL, .slice BO g.vals.length dO] 28)) := HB2.out.alloc s2 _
  have e7 := Whole.new W2 28 #[.int .u8 g.kind, .int .i64 g.num, .string g.str, .slice BL g.items.length dL, .slice BO g.vals.length dO]
  have vA : LstV (fun k => k ≠ W2.heap.size) (W2.alloc (.cells #[.int .u8 g.kind, .int .i64 g.num, .string g.str, .slice BL g.items.length dL, .slice BO g.vals.length dO] 28)) (.slice BL g.items.length dL) g.items ∧ ObjV (fun k => k ≠ W2.heap.size) (W2.alloc (.cells #[.int .u8 g.kind, .int .i64 g.num, .string g.str, .slice BL g.items.length dL, .slice BO g.vals.length dO] 28)) (.slice BO g.vals.length dO) g.keys g.vals :=
    ⟨HV.out.1.keep (fun k _ hk => Below.heap_alloc _ _ _ hk) (fun k _ hk => by omega), HV.out.2.keep (fun k _ hk => Below.heap_alloc _ _ _ hk) (fun k _ hk => by omega)⟩
  have HVV := Lib.hid vA
  have HD := Lib.hid dW
  have HE := Lib.hid e7
  clear vA dW e7 s2
  go_cut [7] (VarAt w W2.heap.size)
  case first =>
    by_cases h5 : g.kind = 5
    · have h5' : (g.kind == 5) = true := by simpa using h5
      have h5'' : (g.kind != 5) = false := by simpa using h5
      have H5 := Lib.hid h5
      clear h5
      go_wp2
      go_meet
      exact ⟨g, BL, BO, dL, dO, rfl, HD.out, HE.out, HVV.out.1, HVV.out.2, HW.out.1.1, H5.out, by have := HW.out.2; omega⟩
    · have h5' : (g.kind == 5) = false := by simpa using h5
      have h5'' : (g.kind != 5) = true := by simpa using h5
      clear h5
      go_wp2
      go_meet
      refine ⟨.mk 5 0 ⟨#[]⟩ [] [⟨#[107]⟩] [g], none, some ⟨W2.heap.size + 1, 0, none⟩, 0, 1, rfl, (HB2.out.alloc HB2.out.size _).alloc (by have := HB2.out.size; simp; omega) _, (Whole.new W2 _ _).alloc _, .inl ⟨rfl, rfl⟩, ?_, field_good HW.out.1.1 (by decide), rfl, ?_⟩
      · have hw := Whole.new (W2.alloc (.cells #[.int .u8 5, .int .i64 0, .string ⟨#[]⟩, .slice none 0 0, .slice (some ⟨W2.heap.size + 1, 0, none⟩) 1 1] 28)) 36 (.string ⟨#[107]⟩ :: chunk g (.slice BL g.items.length dL) (.slice BO g.vals.length dO)).toArray
        rw [World.size_alloc] at hw
        refine field_val (by omega) hw ⟨HV.out.1.keep (fun k _ hk => ?_) (fun k _ hk => by omega), HV.out.2.keep (fun k _ hk => ?_) (fun k _ hk => by omega)⟩
        all_goals rw [Below.heap_alloc _ _ _ (by simp; omega), Below.heap_alloc _ _ _ hk]
      · have e0 : (⟨#[]⟩ : ByteArray).size = 0 := rfl
        have e1 : (⟨#[107]⟩ : ByteArray).size = 1 := rfl
        have := HW.out.2
        simp only [GV.weight, GV.weights, List.map_cons, List.map_nil, List.sum_cons, List.sum_nil]
        omega
  case rest =>
    obtain ⟨o, CL, CO, eL, eO, rfl, hB, hv, hL, hO, hos, ho5, how⟩ := hcut
    have hks : KeysOk o.keys := by
      have hs := hos
      cases o with | mk k n s l ks ov =>
        simp only [GV.kind] at ho5
        subst ho5
        simp only [GV.Sound, SelfP] at hs
        exact (hs.1.2.2.2.2.resolve_right (by simp)).2
    have hkl := hO.1
    have hpl := place_le (plainB key) o.keys
    have hat := keys_at (plainB key) hks
    have hos2 : o.vals.length ≤ 7000 := by have h1 := len_sizes o.vals; have h2 := size_eq o; have h3 := size_le_weight o; omega
    have hcf : ∀ W, Below wc.heap.size wc W → ∀ (d : Nat) (os : Array Obj), (Calls Tryd.prog 32 #[.string key] (grow (redrawn W d) os) fun e w'' => e = .returned (.string (plainB key)) ∧ ∃ p : Regrown, w'' = grow (redrawn W p.d) p.os) ∧
        (Calls Tryd.prog 29 #[.agg #[.int .u8 o.kind, .int .i64 o.num, .string o.str, .slice CL o.items.length eL, .slice CO o.vals.length eO], .string (plainB key)] (grow (redrawn W d) os) fun e w'' => e = .returned (.tuple #[.int .i64 (place (plainB key) o.keys), .bool (there (plainB key) o.keys)]) ∧ ∃ p : Regrown, w'' = grow (redrawn W p.d) p.os) := fun W hW d os => by
      have hb := hW.trans ((below_regrown W d os).mono hW.size)
      exact ⟨Calls.regrown_of (plain_any key _ (by omega)), Calls.regrown_of (val_Field (fun _ => True) _ o (plainB key) _ ⟨_, _, rfl, hL.keep (From.of_below hb) (fun _ _ _ => trivial), hO.keep (From.of_below hb) (fun _ _ _ => trivial)⟩)⟩
    have HF := Lib.hid (fun (W : World) (hW : Below wc.heap.size wc W) => (hv.below hW hv.lt).five)
    have HC := Lib.hid hcf
    have K0 := Lib.hid (Below.refl wc.heap.size wc)
    have HO := Lib.hid (And.intro hL (And.intro hO (And.intro hos (And.intro ho5 how))))
    have HAT := Lib.hid hat
    have HKL := Lib.hid (And.intro hkl hpl)
    have HWC := Lib.hid hB
    have HVW := Lib.hid hv
    clear hcf hL hO hat hkl hpl hB hv hks hos ho5 how
    obtain ⟨x0, x1, x2, x3, x4, _⟩ := HF.out _ K0.out
    have r0 := cell_regrown x0
    have r1 := cell_regrown x1
    have r2 := cell_regrown x2
    have r3 := cell_regrown x3
    have r4 := cell_regrown x4
    have C := Lib.hid (HC.out _ K0.out)
    clear x0 x1 x2 x3 x4
    go_wp2_with fail
    refine wp_region_quiet_below (by kernel_rfl) (by kernel_rfl) ?_
    repeat (any_goals (go_big_quiet_step (first | with_reducible exact (C.out _ _).1 | with_reducible exact (C.out _ _).2)))
    refine wpQuiet_nil ?_
    intro _ hw'
    obtain ⟨⟨dq1, osq1⟩, hw''⟩ := hw'
    subst hw''
    clear C r0 r1 r2 r3 r4
    have K1 := Lib.hid (K0.out.trans ((below_regrown wc dq1 osq1).mono K0.out.size))
    generalize grow (redrawn wc dq1) osq1 = We at *
    generalize hp : place (plainB key) o.keys = p at *
    generalize ht : there (plainB key) o.keys = t at *
    have HPT := Lib.hid (And.intro hp ht)
    clear hp ht
    go_wp2_with fail
    go_loopw [10] (fun i wr => ∃ k : Nat, i = .int .i64 k ∧ k ≤ o.vals.length ∧ Below wc.heap.size wc wr) (fun i _ => o.vals.length - (intOf i).toNat)
    case atStart => exact ⟨0, rfl, Nat.zero_le _, K1.out⟩
    case round =>
      obtain ⟨k, rfl, hk, hr⟩ := hrel
      obtain ⟨x0, x1, x2, x3, x4, _⟩ := HF.out _ hr
      have KR := Lib.hid hr
      clear hr
      by_cases hlt : k < o.vals.length
      · have hlk : k < o.keys.length := by have := HKL.out.1; omega
        obtain ⟨_, _, hCO, hc1, hc2, hf⟩ := HO.out.2.1.form
        cases hCO
        unfold maxLen at hc2
        obtain ⟨b, oo, rfl, hK, hkk, _⟩ := hf (by intro e; rw [e] at hlt; simp at hlt)
        have hc := (KR.out.cell (p := ⟨b, oo + k * 6, none⟩) hK.lt).trans (hkk.get (List.getElem?_eq_getElem hlk))
        have hcase := HAT.out k _ (List.getElem?_eq_getElem hlk)
        have r4 := cell_regrown x4
        have rk := cell_regrown hc
        have C := Lib.hid (HC.out _ KR.out)
        have hk0 : (0 : Int) ≤ (k : Int) := by omega
        have hk1 : (k : Int) < (o.vals.length : Int) := by omega
        clear x0 x1 x2 x3 hc hf hK hkk
        generalize o.keys[k] = kk at *
        clear hlk
        generalize plainB key = pk at *
        rcases hcase with ⟨c1, c2, c3, c4, c5⟩ | ⟨rfl, c2, c3⟩ | ⟨c1, c2, c3, c4, c5⟩
        all_goals
          cases t
          all_goals
            go_wp2_with fail
            refine wp_region_quiet_below (by kernel_rfl) (by kernel_rfl) ?_
            repeat (any_goals (go_big_quiet_step (first | with_reducible exact (C.out _ _).1)))
            refine wpQuiet_nil ?_
            intro _ hw'
            obtain ⟨⟨dq2, osq2⟩, hw''⟩ := hw'
            subst hw''
            go_wp2
            go_roundw
            case rel => exact ⟨k + 1, by go_num, by omega, KR.out.trans ((below_regrown wr dq2 osq2).mono KR.out.size)⟩
            case measure => simp [intOf]; omega
      · go_wp2_with fail
        have HSW : Hid (w.heap.size ≤ W2.heap.size ∧ W2.heap.size < wc.heap.size ∧ o.vals.length ≤ 7000) := Lib.hid ⟨HB2.out.size, HVW.out.lt, hos2⟩
        clear x0 x1 x2 x3
        go_cut [7] (VarNew w W2.heap.size o CL eL (plainB key))
        case first =>
          go_region_with (first | (go_at_call 32; refine (plain_any key _ (by omega)).mono ?_; rintro e Wp ⟨rfl, hbp⟩; have HPB : Hid (Below wc.heap.size wc Wp) := (Lib.hid (by first | exact HBB.out.trans (hbp.mono HBB.out.size) | exact KR.out.drew.trans (hbp.mono KR.out.size))); have HPM := Lib.hid hbp; have p4 := (HF.out _ HPB.out).c4; clear hbp) | (go_at_call 31; refine (HBUILD.out.2 (by have := (HB'.out (by simpa using ‹¬ b' = true›)).1; have := HN.out; omega) _ (by first | exact HWC.out.trans (HPB.out.mono HWC.out.size) | exact HWC.out.trans (KR.out.drew.mono HWC.out.size))).mono ?_; rintro e Wb ⟨m, v, rfl, ⟨L3, O3, rfl, hL3, hO3⟩, hgd, hw3, hbb⟩; obtain ⟨ML, fL, rfl⟩ := lst_form hL3; obtain ⟨MO, fO, rfl⟩ := obj_form hO3; have HBB : Hid (Below wc.heap.size wc Wb) := (Lib.hid (by first | exact HPB.out.trans (hbb.mono HPB.out.size) | exact KR.out.drew.trans (hbb.mono KR.out.size))); have HM : Hid (m.val (fun k => k ≠ W2.heap.size) Wb (.agg #[.int .u8 m.kind, .int .i64 m.num, .string m.str, .slice ML m.items.length fL, .slice MO m.vals.length fO])) := (Lib.hid (by first | exact ⟨_, _, rfl, hL3.keep (From.refl _ _) (fun j hj _ => by have h1 := HSW.out; have h2 := HPB.out.size; omega), hO3.keep (From.refl _ _) (fun j hj _ => by have h1 := HSW.out; have h2 := HPB.out.size; omega)⟩ | exact ⟨_, _, rfl, hL3.keep (From.refl _ _) (fun j hj _ => by have h1 := HSW.out; have h2 := KR.out.size; simp at hj; omega), hO3.keep (From.refl _ _) (fun j hj _ => by have h1 := HSW.out; have h2 := KR.out.size; simp at hj; omega)⟩)); have HMG := Lib.hid (And.intro hgd hw3); have b4 := (HF.out _ HBB.out).c4; clear hL3 hO3 hgd hw3 hbb) | (go_at_call 33; refine (with_any (fun k => k ≠ W2.heap.size) _ o.keys o.vals (plainB key) m _ _ (HO.out.2.1.keep (From.of_below (by first | exact HPB.out | exact HBB.out)) (fun _ h _ => h)) (by first | exact HM.out | exact GV.val_keep (From.of_below HPM.out) (fun _ h _ => h) HM.out) (by have := HSW.out.2.2; omega)).mono ?_; rintro e Wd ⟨v', rfl, hobj, hbd⟩; obtain ⟨N, cN, rfl⟩ := obj_form hobj; have HBD : Hid (Below wc.heap.size wc Wd) := (Lib.hid (by first | exact HPB.out.trans (hbd.mono HPB.out.size) | exact HBB.out.trans (hbd.mono HBB.out.size))); have HNO : Hid (ObjV (fun k => k ≠ W2.heap.size) Wd (.slice N (insV (plainB key) o.keys o.vals m).length cN) (insK (plainB key) o.keys) (insV (plainB key) o.keys o.vals m)) := (Lib.hid (hobj.keep (From.refl _ _) (fun j hj _ => by rcases hj with hj | hj; exact hj; have h1 := HSW.out; have h2 := HPB.out.size; have h3 := HBB.out.size; omega))); obtain ⟨d0, d1, d2, d3, d4, g0, g1, g2, g3, g4⟩ := HF.out _ HBD.out; clear hobj hbd))
          all_goals
            go_wp2_with fail
            go_meet
            refine ⟨m, N, cN, rfl, (HWC.out.trans (HBD.out.mono HWC.out.size)).setCell (by have := HSW.out; simp only; omega) _, (HVW.out.below HBD.out HVW.out.lt).put 4 _, ?_, ?_, HMG.out.1.1, HMG.out.2⟩
            · exact (HO.out.1.keep (From.of_below HBD.out) (fun _ h _ => h)).keep (fun j hj _ => Below.heap_setCell Wd ⟨W2.heap.size, 4, none⟩ _ j hj) (fun _ _ _ => trivial)
            · exact HNO.out.keep (fun j hj _ => Below.heap_setCell Wd ⟨W2.heap.size, 4, none⟩ _ j hj) (fun _ _ _ => trivial)
        case rest =>
          obtain ⟨m, N, cN, rfl, hBe, hve, hLe, hOe, hms, hmw⟩ := hcut
          have hks : KeysOk o.keys := by
            have hs := HO.out.2.2.1
            have ho5 := HO.out.2.2.2.1
            cases o with | mk k n s l ks ov =>
              simp only [GV.kind] at ho5
              subst ho5
              simp only [GV.Sound, SelfP] at hs
              exact (hs.1.2.2.2.2.resolve_right (by simp)).2
          have hgood := newG_good (key := plainB key) HO.out.2.2.1 HO.out.2.2.2.1 hks hms (plain_valid key)
          have hwt : (newG o (plainB key) m).weight ≤ 1000000000 := by have h1 := newG_weight o m (plainB key); have h2 := HO.out.2.2.2.2; have h3 := plain_size key; omega
          have hth : there (plainB key) (newG o (plainB key) m).keys = true := there_ins _ _
          have hq : ∀ W, Below wc.heap.size wc W → Five W W2.heap.size (.int .u8 o.kind) (.int .i64 o.num) (.string o.str) (.slice CL o.items.length eL) (.slice N (insV (plainB key) o.keys o.vals m).length cN) ∧ (newG o (plainB key) m).val (fun _ => True) W (.agg #[.int .u8 o.kind, .int .i64 o.num, .string o.str, .slice CL o.items.length eL, .slice N (insV (plainB key) o.keys o.vals m).length cN]) ∧ Tabs W := fun W hW =>
            ⟨(hve.below hW hve.lt).five, ⟨_, _, rfl, hLe.keep (From.of_below hW) (fun _ h _ => h), hOe.keep (From.of_below hW) (fun _ h _ => h)⟩, (HU.out.below hBe (Nat.le_refl _)).below hW (by have := hBe.size; omega)⟩
          have hcf : ∀ (d : Nat) (os : Array Obj), (Calls Tryd.prog 32 #[.string key] (grow (redrawn wc d) os) fun e w'' => e = .returned (.string (plainB key)) ∧ ∃ p : Regrown, w'' = grow (redrawn wc p.d) p.os) ∧
              (Calls Tryd.prog 29 #[.agg #[.int .u8 o.kind, .int .i64 o.num, .string o.str, .slice CL o.items.length eL, .slice N (insV (plainB key) o.keys o.vals m).length cN], .string (plainB key)] (grow (redrawn wc d) os) fun e w'' => e = .returned (.tuple #[.int .i64 (place (plainB key) (newG o (plainB key) m).keys), .bool true]) ∧ ∃ p : Regrown, w'' = grow (redrawn wc p.d) p.os) := fun d os => by
            have hv := (hq _ (below_regrown wc d os)).2.1
            have hf := val_Field (fun _ => True) _ (newG o (plainB key) m) (plainB key) _ hv
            unfold FieldPost at hf
            rw [hth] at hf
            exact ⟨Calls.regrown_of (plain_any key _ (by omega)), Calls.regrown_of hf⟩
          have C := Lib.hid hcf
          have HQ := Lib.hid hq
          have HGW := Lib.hid (And.intro hgood hwt)
          have HBE := Lib.hid hBe
          obtain ⟨x0, x1, x2, x3, x4, _⟩ := (hq _ (Below.refl _ _)).1
          have r0 := cell_regrown x0
          have r1 := cell_regrown x1
          have r2 := cell_regrown x2
          have r3 := cell_regrown x3
          have r4 := cell_regrown x4
          clear hcf hq hgood hwt hth hks hve hLe hOe hms hmw hBe x0 x1 x2 x3 x4
          go_wp2_with fail
          refine wp_region_quiet_below (by kernel_rfl) (by kernel_rfl) ?_
          repeat (any_goals (go_big_quiet_step (first | with_reducible exact (C.out _ _).1 | with_reducible exact (C.out _ _).2)))
          refine wpQuiet_nil ?_
          intro _ hw'
          obtain ⟨⟨dq3, osq3⟩, hw''⟩ := hw'
          subst hw''
          have K3 := Lib.hid (below_regrown wc dq3 osq3)
          clear C r0 r1 r2 r3 r4
          generalize grow (redrawn wc dq3) osq3 = We at *
          obtain ⟨x0, x1, x2, x3, x4, _⟩ := (HQ.out _ K3.out).1
          have HSO := Lib.hid (val_Sound _ _ (newG o (plainB key) m) We (HQ.out _ K3.out).2.1 HGW.out.2 (HQ.out _ K3.out).2.2)
          go_wp2_with (go_at_call 20; refine HSO.out.mono ?_; rintro e Wf ⟨bs, rfl, hbs, hbf⟩; obtain rfl : bs = true := hbs.2 HGW.out.1; have K4 := Lib.hid (K3.out.trans (hbf.mono K3.out.size)); clear hbs hbf)
          refine bodyPost_ret (v := .bool true) (by simp [results, Tryd.results8, go_sem]) rfl ?_
          exact ⟨rfl, HBE.out.trans (K4.out.mono HBE.out.size)⟩
end Go.Proofs.YtjknicljbmakeaaDoor
