/- json's reader: a number. -/
import Derived.Test.YtmmjkhkcffgeiaaDoorJInt
import Derived.Test.YtmmjkhkcffgeiaaDoorWVal
import Derived.Deep.RegionHeld3
namespace Go.Proofs.YtmmjkhkcffgeiaaDoor
open Go Go.RowKit Go.Shelf Go.Sort

/-- What strconv's errors are lies below B, and stays there. -/
def ErrsB (B : Nat) (W : World) : Prop := ∃ e5 e6, (∀ W', Below B W W' → W'.cell? ⟨5, 0, none⟩ = some e5 ∧ W'.cell? ⟨6, 0, none⟩ = some e6) ∧ (e5 = .nilIface ∨ ∃ te pe, e5 = .iface te pe) ∧ (e6 = .nilIface ∨ ∃ te pe, e6 = .iface te pe)
theorem ErrsB.later {B : Nat} {W W' : World} (h : ErrsB B W) (hb : Below B W W') : ErrsB B W' := by
  obtain ⟨e5, e6, h1, h2, h3⟩ := h
  exact ⟨e5, e6, fun W'' h => h1 W'' (hb.trans h), h2, h3⟩
/-- What ParseInt tells. -/
def PI (p : List UInt8) (k : Int) (E : Value) : Prop :=
  (Lib.parseIntB 64 p = .ok k ∧ E = .nilIface) ∨ ((∀ n, Lib.parseIntB 64 p ≠ .ok n) ∧ ∃ N, E = .iface 133 (.pointer (some ⟨N, 0, none⟩)))
def PInt (p : List UInt8) (w : World) (e : Ending) (w' : World) : Prop := ∃ k E, e = .returned (.tuple #[.int .i64 k, E]) ∧ PI p k E ∧ Below w.heap.size w w'
theorem below_drewN (W : World) (n : Nat) : Below W.heap.size W (W.drewN n) := ⟨rfl, rfl, rfl, Nat.le_refl _, fun _ _ => rfl⟩
/-- Behind the last digit. -/
def CutF (w : World) (t : Value) (w' : World) : Prop := t = .bool false ∧ ∃ n, w' = w.drewN n
/-- Behind ParseInt. -/
def CutI (p : List UInt8) (w : World) (t4 t5 : Value) (w' : World) : Prop := ∃ k, t4 = .int .i64 k ∧ PI p k t5 ∧ Below w.heap.size w w'
theorem parse_any {B : Nat} (s : ByteArray) (w : World) (hs : s.size ≤ 60000) (hE : ErrsB B w) : Calls Tryd.prog 79 #[.string s, .int .i64 10, .int .i64 64] w (PInt s.data.toList w) := by
  obtain ⟨e5, e6, h1, h2, h3⟩ := hE
  have hc := h1 w (Below.refl _ _)
  cases hp : Lib.parseIntB 64 s.data.toList with
  | ok n =>
    refine (Tryd.strconv_ParseInt_10_at64_ok s (by omega) n hp w).mono fun e w' hh => ⟨n, .nilIface, hh.1, .inl ⟨hp, rfl⟩, ?_⟩
    rcases hh.2 with rfl | ⟨t, rfl⟩
    · exact Below.refl _ _
    · exact Lib.bytesWorld_below _ _ _
  | range =>
    exact (Tryd.strconv_ParseInt_10_at64_range s (by omega) hp e6 w hc.2 h3).mono fun e w' ⟨N, he, _, _, hb⟩ => ⟨_, _, he, .inr ⟨(fun n h => by rw [hp] at h; cases h), N, rfl⟩, hb⟩
  | _ =>
    exact (Tryd.strconv_ParseInt_10_at64_syntax s (by omega) (fun n e => by rw [hp] at e; cases e) (fun e => by rw [hp] at e; cases e) e5 w hc.1 h2).mono fun e w' ⟨N, he, _, _, hb⟩ => ⟨_, _, he, .inr ⟨(fun n h => by rw [hp] at h; cases h), N, rfl⟩, hb⟩

/-- Between two digits. -/
def NumRel (R X : Nat) (s : ByteArray) (i1 d : Nat) (W : World) (wr : World) : Prop :=
  ∃ (ds : List UInt8) (j : Nat), At wr R s j d ∧ i1 ≤ j ∧ rest s i1 = ds ++ rest s j ∧ (∀ c ∈ ds, isD c = true) ∧ Rd R W wr ∧ Whole wr X 31 zcs

set_option maxHeartbeats 8000000 in
set_option maxRecDepth 100000 in
theorem r_number (m R B : Nat) (s : ByteArray) (i d : Nat) (W : World) (h : At W R s i d) (hBR : B ≤ R) (hE : ErrsB B W) (hT : TenB B W) (c : UInt8) (r : List UInt8) (hq : rest s i = c :: r) (hk : headKind c = 2) :
    Calls Tryd.prog 68 #[.pointer (some ⟨R, 0, none⟩)] W (ROut m R s i d W) := by
  have hlt := h.lt
  have hm := h.max
  have hi0 := h.le
  -- the sign
  obtain ⟨sg, i1, b, hsk, hs1, hs2, hi1⟩ : ∃ (sg : List UInt8) (i1 : Nat) (b : Bool), (∀ W1, At W1 R s i d → Calls Tryd.prog 78 #[.pointer (some ⟨R, 0, none⟩), .string ⟨#[45]⟩] W1 fun e w' => e = .returned (.bool b) ∧ At w' R s i1 d ∧ Rd R W1 w') ∧ rest s i = sg ++ rest s i1 ∧ Sgn sg (rest s i1) ∧ i ≤ i1 := by
    cases hp : Lib.hasPrefix (rest s i) [45] with
    | true =>
      obtain ⟨r', hr⟩ := pre_split hp
      have hn := rest_next (p := [45]) hr
      exact ⟨[45], i + 1, true, fun W1 h1 => c_skips_yes R s ⟨#[45]⟩ i d W1 h1 r' hr, by rw [hr, ← hn]; rfl, .inl rfl, by omega⟩
    | false =>
      refine ⟨[], i, false, fun W1 h1 => c_skips_no R s ⟨#[45]⟩ i d W1 h1 hp, rfl, .inr ⟨rfl, fun e => ?_⟩, Nat.le_refl _⟩
      rw [hq] at e hp
      simp at e
      subst e
      simp [Lib.hasPrefix] at hp
  have HSK := Lib.hid hsk
  have HS := Lib.hid (And.intro hs1 (And.intro hs2 (And.intro hq hk)))
  have HET := Lib.hid (And.intro hE hT)
  have HA0 := Lib.hid h
  have hc0 := fun o => (h.later ((Below.refl W.heap.size W).alloc (Nat.le_refl _) o)).cells
  have c0 := fun o => (hc0 o).1
  have c1 := fun o => (hc0 o).2.1
  clear h hsk hs1 hs2 hE hT hq hk hc0
  go_enter Tryd.func68, Tryd.ntmps68
  go_wp2_with (go_at_call 78; refine (HSK.out _ (HA0.out.later ((Below.refl _ _).alloc (Nat.le_refl _) _))).mono ?_; rintro e W1 ⟨rfl, hA, hR⟩; have H1 := Lib.hid (And.intro hA (res_ahead hR hlt)); clear hA hR c0 c1)
  go_loopw [] (NumRel R W.heap.size s i1 d W) (fun w => s.size - posOf R w)
  case atStart => exact ⟨[], i1, H1.out.1, Nat.le_refl _, rfl, (fun c h => by cases h), H1.out.2.2, H1.out.2.1⟩
  case round =>
    clear H1
    obtain ⟨ds, j, hA, hj1, hds, hda, hR, hX⟩ := hrel
    obtain ⟨c0, c1, c2, f0, f1, f2⟩ := hA.cells
    have hle := hA.le
    have HA := Lib.hid (And.intro hA (And.intro hds (And.intro hda (And.intro hR hX))))
    have hpos := Lib.hid hA.pos
    have hw := IntWalk.i64_in ((j : Int) + 1) (by omega)
    have hj0 : (0 : Int) ≤ (j : Int) := by omega
    clear hA hds hda hR hX
    by_cases hlt2 : j < s.size ∧ ∀ h : j < s.size, isD s[j] = true
    · obtain ⟨hj, hcd⟩ := hlt2
      have hcd := hcd hj
      have HRC := Lib.hid (rest_cons hj)
      have g1 : decide ((j : Int) < (s.size : Int)) = true := by simp; omega
      have g2 : decide (48 ≤ (s[j].toNat : Int)) = true := by simp [isD] at hcd; simp; omega
      have g3 : decide ((s[j].toNat : Int) ≤ 57) = true := by simp [isD] at hcd; simp; omega
      have HCD := Lib.hid hcd
      clear hcd
      go_wp2_with fail
      go_quiet ((fail))
      go_wp2
      go_roundw
      case rel =>
        refine ⟨ds ++ [s[j]], j + 1, ?_, by omega, ?_, ?_, (HA.out.2.2.2.1.trans (Rd.drewN _ _ _)).trans (Rd.set _ _ _ _), ?_⟩
        · have := (HA.out.1.drewN nq).put (j := j + 1) (by omega)
          exact this
        · rw [HA.out.2.1, HRC.out]; simp
        · intro x hx
          rcases List.mem_append.1 hx with hx | hx
          · exact HA.out.2.2.1 x hx
          · rw [List.mem_singleton.1 hx]; exact HCD.out
        · have : Whole (wr.drewN nq) W.heap.size 31 zcs := HA.out.2.2.2.2
          exact this.far (by simp only; omega) _
      case measure =>
        have h1 : posOf R ((wr.drewN nq).setCell ⟨R, 1, none⟩ (.int .i64 ((j + 1 : Nat) : Int))) = j + 1 := ((HA.out.1.drewN nq).put (j := j + 1) (by omega)).pos
        have e : ((j + 1 : Nat) : Int) = (j : Int) + 1 := by omega
        rw [e] at h1
        rw [h1, hpos.out]
        omega
    · have hex : ((decide ((j : Int) < (s.size : Int)) = false ∧ decide (j < s.size) = false ∧ ¬ j < s.size) ∨ ∃ h : j < s.size, decide ((j : Int) < (s.size : Int)) = true ∧ (decide (48 ≤ (s[j].toNat : Int)) = false ∨ (decide (48 ≤ (s[j].toNat : Int)) = true ∧ decide ((s[j].toNat : Int) ≤ 57) = false))) ∧ Nd (rest s j) := by
        by_cases hj : j < s.size
        · have hcd : isD s[j] = false := by
            cases hh : isD s[j] with
            | false => rfl
            | true => exact absurd ⟨hj, fun _ => hh⟩ hlt2
          refine ⟨.inr ⟨hj, by simp; omega, ?_⟩, by rw [rest_cons hj]; exact nd_cons hcd⟩
          simp [isD] at hcd
          by_cases h48 : 48 ≤ s[j].toNat
          · exact .inr ⟨by simp; omega, by have := hcd h48; simp; omega⟩
          · exact .inl (by simp; omega)
        · refine ⟨.inl (by simp; omega), ?_⟩
          have e : rest s j = [] := List.length_eq_zero_iff.1 (by rw [rest_length]; omega)
          rw [e]
          exact fun c h => by cases h
      have HND := Lib.hid hex.2
      have hij : i ≤ j := by omega
      have hij' : (i : Int) ≤ (j : Int) := by omega
      have hjs : (j : Int) ≤ (s.size : Int) := by omega
      have hi0' : (0 : Int) ≤ (i : Int) := by omega
      obtain ⟨p, hp⟩ : ∃ p, p = sg ++ ds := ⟨_, rfl⟩
      have hrest : rest s i = p ++ rest s j := by rw [hp, HS.out.1, HA.out.2.1, List.append_assoc]
      have hmid := rest_mid hij hle hrest
      have hB1 : Below B W wr := HA.out.2.2.2.1.below hBR (by omega)
      have HPA := Lib.hid (fun (W2 : World) (hb : Below wr.heap.size wr W2) => parse_any (B := B) (s.extract i j) W2 (by simp; omega) ((HET.out.1.later hB1).later (hb.mono (by have := HA.out.1.lt; omega))))
      rw [hmid] at HPA
      have HSS := Lib.hid (fun (W2 : World) (hb : Below wr.heap.size wr W2) => (show W2.cell? ⟨R, 0, none⟩ = some (.string s) ∧ W2.cell? ⟨R, 1, none⟩ = some (.int .i64 j) from ⟨(HA.out.1.later hb).cells.1, (HA.out.1.later hb).cells.2.1⟩))
      have hx := hex.1
      have HEX := Lib.hid (And.intro hp (And.intro hmid hB1))
      clear hex hlt2 hp hrest hmid hB1 hw
      have HGX := Lib.hid hx
      clear hx
      go_wp2_with fail
      go_cut [54] (CutF wr)
      case first =>
        rcases HGX.out with ⟨g1, g1n, hnj⟩ | ⟨hj, g1, g2 | ⟨g2, g3⟩⟩
        all_goals go_quiet ((fail))
        all_goals go_wp2_with fail
        all_goals go_meet
        all_goals exact ⟨rfl, _, rfl⟩
      case rest =>
        obtain ⟨rfl, nq, rfl⟩ := hcut
        go_wp2_with fail
        go_cut [4, 5] (CutI p wr)
        case first =>
          go_region_held3 (fun W2 => W2.cell? ⟨R, 0, none⟩ = some (.string s) ∧ W2.cell? ⟨R, 1, none⟩ = some (.int .i64 j))
            (first | exact HSS.out _ HB9.out | exact HSS.out _ (below_drewN _ _).drew | exact HSS.out _ (below_drewN _ _))
            (first | (go_at_call 79; refine (HPA.out _ (below_drewN _ _).drew).mono ?_; rintro e w9 ⟨k, E, rfl, hpi, hb⟩; have HPI := Lib.hid hpi; have HB9 := Lib.hid ((below_drewN wr _).drew.trans hb); clear hpi hb))
          all_goals go_wp2_with fail
          all_goals go_meet
          all_goals exact ⟨k, rfl, HPI.out, HB9.out⟩
        case rest =>
          obtain ⟨k, rfl, hpi, hbw⟩ := hcut
          have HA5 := Lib.hid (HA.out.1.later hbw)
          have HX5 := Lib.hid (HA.out.2.2.2.2.below hbw HA.out.2.2.2.2.lt)
          have HR5 := Lib.hid (HA.out.2.2.2.1.trans (Rd.of_below (R := R) hbw))
          have HB5 := Lib.hid (HEX.out.2.2.trans (hbw.mono (by have := HA.out.1.lt; omega)))
          have hsz5 : B ≤ wc.heap.size := by have := HA5.out.lt; omega
          have HSS2 := Lib.hid (fun (W2 : World) (hb : Below wc.heap.size wc W2) => (show W2.cell? ⟨R, 0, none⟩ = some (.string s) ∧ W2.cell? ⟨R, 1, none⟩ = some (.int .i64 j) from ⟨(HA5.out.later hb).cells.1, (HA5.out.later hb).cells.2.1⟩))
          obtain ⟨c0, c1, c2, f0, f1, f2⟩ := HA5.out.cells
          clear hbw HPA HSS
          rcases hpi with ⟨hpo, rfl⟩ | ⟨hpn, N, rfl⟩
          · have hrg := parse_range hpo
            have HFI := Lib.hid (fun (W2 : World) (hb : Below wc.heap.size wc W2) => (Tryd.strconv_FormatInt_10 k hrg.1 hrg.2 W2 ((HET.out.2.later HB5.out).later (hb.mono hsz5)).here).mono (R' := fun e w' => e = .returned (.string ⟨(Lib.itoa k).toArray⟩) ∧ Below W2.heap.size W2 w') fun e w' hh => ⟨hh.1, grown_below hh.2⟩)
            have HPO := Lib.hid hpo
            clear hpo hrg
            by_cases hit : Lib.itoa k = p
            · have hxx : s.extract i j = ⟨(Lib.itoa k).toArray⟩ := ba_ext (by rw [HEX.out.2.1, hit])
              have HIT := Lib.hid hit
              clear hit
              go_wp2_with fail
              go_region_held3 (fun W2 => W2.cell? ⟨R, 0, none⟩ = some (.string s) ∧ W2.cell? ⟨R, 1, none⟩ = some (.int .i64 j))
                (first | exact HSS2.out _ HB10.out | exact HSS2.out _ (Below.refl _ wc).drew | exact HSS2.out _ (Below.refl _ wc))
                (first
                  | (go_at_call 38; refine (HFI.out _ (Below.refl _ wc).drew).mono ?_; rintro e w10 ⟨rfl, hb⟩; have HB10 := Lib.hid ((Below.refl _ wc).drew.trans hb); clear hb)
                  | (go_at_call 24; refine (need_ok _ _).mono ?_; rintro e w11 ⟨rfl, rfl⟩))
              all_goals have hx5 := HX5.out.below HB10.out HX5.out.lt
              all_goals unfold zcs at hx5
              all_goals obtain ⟨e0, e1, e2, e3, e4, v0, v1, v2, v3, v4⟩ := hx5.five
              all_goals go_wp2_with fail
              all_goals
                obtain ⟨d0, d1, d2, d3, d4, _⟩ := (whole_put5' hx5 (.int .u8 2) (.int .i64 k) (.string ⟨#[]⟩) (.slice none 0 0) (.slice none 0 0)).five
                unfold put5 at d0 d1 d2 d3 d4
                refine bodyPost_ret (v := .agg #[.int .u8 2, .int .i64 k, .string ⟨#[]⟩, .slice none 0 0, .slice none 0 0]) (by simp [results, Tryd.results68, go_sem, d0, d1, d2, d3, d4]) rfl ?_
                refine .inl ⟨.mk 2 k ⟨#[]⟩ [] [] [], j, _, ?_, rfl, leaf_val _ _ _ _ _, (HA5.out.later HB10.out).put5 (by omega) _ _ _ _ _, (HR5.out.trans (Rd.of_below HB10.out)).put5 (Nat.le_refl _) _ _ _ _ _⟩
                rw [HS.out.1, HA.out.2.1]
                exact yes_int (by rw [← HEX.out.1]; exact HPO.out) (by rw [← HEX.out.1]; exact HIT.out) HND.out
            · have hxx : s.extract i j = ⟨p.toArray⟩ := ba_ext (by rw [HEX.out.2.1])
              have hit2 : (Lib.itoa k == p) = false := by simpa using hit
              have HNO := Lib.hid (show ¬ ∃ g r, VAt m (rest s i) g r by
                rw [HS.out.1, HA.out.2.1]
                refine no_int (by rw [← HA.out.2.1, ← HS.out.1]; exact HS.out.2.2.1) HS.out.2.2.2 (by rw [← HA.out.2.1]; exact HS.out.2.1) HA.out.2.2.1 HND.out (fun n h h2 => hit ?_)
                rw [← HEX.out.1, HPO.out] at h
                cases h
                rw [h2, HEX.out.1])
              clear hit
              go_wp2_with fail
              go_region_with (first
                | (go_at_call 38; refine (HFI.out _ (Below.refl _ wc).drew).mono ?_; rintro e w10 ⟨rfl, hb⟩; have HB10 := Lib.hid ((Below.refl _ wc).drew.trans hb); clear hb; obtain ⟨k0, k1⟩ := HSS2.out _ HB10.out)
                | (go_at_call 24; refine (need_bad _ _).mono ?_; intro e w11 hq; have hbad : Bad R W e w11 := ⟨_, hq.1, .inl rfl, by rw [← hq.2]; exact HR5.out.trans (Rd.of_below HB10.out)⟩; rcases dead (.tuple #[]) hbad with ⟨rfl, HF⟩ | ⟨v, rfl, hv, hR⟩; rotate_left; (first | exact panic_post rfl (rout_bad HNO.out ⟨v, rfl, hv, hR⟩) | (change _ ∧ _; exact ⟨rfl, rout_bad HNO.out ⟨v, rfl, hv, hR⟩⟩))))
              all_goals exact HF.out.elim
          · have HPN := Lib.hid hpn
            clear hpn
            go_wp2
            exact panic_post rfl (rout_bad (by rw [HS.out.1, HA.out.2.1]; exact no_int (by rw [← HA.out.2.1, ← HS.out.1]; exact HS.out.2.2.1) HS.out.2.2.2 (by rw [← HA.out.2.1]; exact HS.out.2.1) HA.out.2.2.1 HND.out (fun n h => absurd h (by rw [← HEX.out.1]; exact HPN.out n))) ⟨_, rfl, .inr ⟨N, rfl⟩, HR5.out⟩)
end Go.Proofs.YtmmjkhkcffgeiaaDoor
