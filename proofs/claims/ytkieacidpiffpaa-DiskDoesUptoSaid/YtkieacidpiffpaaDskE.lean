/- Append's closure: what is done where the disk is not halted. -/
import Derived.Test.YtkieacidpiffpaaDskD
import Derived.Deep.QuietTactic
import Derived.BigQuiet
import Derived.Deep.RegionHeld3
import Derived.Deep.RegionLaw
import Derived.Deep.DeepCutAuto
namespace Go.Proofs.Ytkieacidpiffpaa
open Go Go.RowKit
set_option linter.unusedVariables false
set_option linter.unusedSimpArgs false

/-- Bytes that are none of the disk's own. -/
def Src (own : Nat → Prop) (w : World) (A : Option Addr) (bs : List Int) : Prop :=
  bs ≠ [] → ∃ b o, A = some ⟨b, o, none⟩ ∧ ¬ own b ∧ b < w.heap.size ∧ ∀ i x, bs[i]? = some x → w.cell? ⟨b, o + i, none⟩ = some (.int .u8 x)
theorem Src.bytes {own : Nat → Prop} {w : World} {A : Option Addr} {bs : List Int} (h : Src own w A bs) : Bytes w.heap.size w A bs := fun hne => by
  obtain ⟨b, o, rfl, _, hb, hc⟩ := h hne; exact ⟨b, o, rfl, hb, hc⟩
theorem Src.kp {own : Nat → Prop} {w w' : World} {A : Option Addr} {bs : List Int} (h : Src own w A bs) (k : Kp own w w') : Src own w' A bs := fun hne => by
  obtain ⟨b, o, rfl, ho, hb, hc⟩ := h hne
  exact ⟨b, o, rfl, ho, Nat.lt_of_lt_of_le hb k.size, fun i x hi => (World.cell?_of_block (a := ⟨b, o + i, none⟩) (k.block b hb ho)).trans (hc i x hi)⟩
def Res (d : Dk) (w : World) (r : Md × Int) (e : Ending) (w' : World) : Prop :=
  e = .returned (.int .u16 r.2) ∧ ∃ d', DkAt w' d' ∧ d'.md = r.1 ∧ d'.B = d.B ∧ Kp d.own w w' ∧ ∀ i, d'.own i → d.own i ∨ w.heap.size ≤ i
theorem Res.same {d : Dk} {w w' : World} {r : Md × Int} {c : Int} (h : DkAt w d) (hb : Below w.heap.size w w') (h1 : r = (d.md, c)) : Res d w r (.returned (.int .u16 c)) w' := by
  subst h1; exact ⟨rfl, d, h.below hb, rfl, rfl, Kp.of_below hb, fun i hi => .inl hi⟩
theorem used_at {w : World} {d : Dk} (h : DkAt w d) : ∀ W, Below w.heap.size w W → Calls Try.prog 16 #[.pointer (some ⟨d.B, 0, none⟩)] W fun e w' => e = .returned (.int .i64 (sizes (vws d.fs) : Nat)) ∧ Below w.heap.size w w' := fun W hb =>
  (used_any (h.below hb)).mono fun e w' ⟨he, hb'⟩ => ⟨he, hb.trans (hb'.mono hb.size)⟩
theorem below_drewN {B : Nat} {a w : World} (h : Below B a w) (n : Nat) : Below B a (w.drewN n) := ⟨h.os, h.tape, h.output, h.size, h.block⟩
/-- An append within a region that draws its order; where the row lies then. -/
theorem step_append_at {P : Program} {w : World} {ops : Array Oper} {o : Oper} {a : Act} {K : Act → World → Prop} {Q : Exit → Act → World → Prop} {E : Prop} (hgd : o.guard = none) (s x : Operand) (t : TypeId)
    (ho : o.op = .call { callee := .builtin .append, args := #[s, x], argTypes := #[t, t] })
    (base : Nat) (e : TypeId) (i : TypeInfo) (z : Value) (size bytes : Nat) (ht : P.underlying t = some (.slice e)) (hi : P.info? e = some i) (hz : i.zero = some z)
    (hsize : i.size = size) (hby : i.bytes = bytes) (hzs : z.cells.size = size) (hsz : 0 < size)
    (v : Value) (n : Nat) (xs : List Value) (hs : a.eval s = v) (hown : w.ownsRow base e size v n xs)
    (A : Option Addr) (m c : Nat) (news : List Value) (hx : a.eval x = .slice A m c) (hA : A = none → m = 0) (hl : news.length = m * size) (hnews : ∀ ad, A = some ad → ∀ j u, news[j]? = some u → w.cell? (ad.add j) = some u) (h1 : ∀ u ∈ news, u.oneCell' = true)
    (h63 : n + m ≤ maxLen) (hbytes : (n + m) * bytes ≤ 140737488355328) (hbase : base ≤ w.heap.size)
    (h : ∀ v' w', w'.ownsRow base e size v' (n + m) (xs ++ news) → w.grownBy w' v.ownBlock → (v'.ownBlock = v.ownBlock ∨ v'.ownBlock = some w.heap.size) → K (a.put o.dst v') w') :
    if Region.wanted o (yielded ops a.tmps) = true then Oper.wp P o a w K Q else E := by
  have hw : Region.wanted o (yielded ops a.tmps) = true := by simp [Region.wanted, hgd]
  rw [if_pos hw]
  have hrun : ∃ v' w', (Builtin.append_ #[t, t] o.type #[v, .slice A m c]).run P w = .ok v' w' ∧ w'.ownsRow base e size v' (n + m) (xs ++ news) ∧ w.grownBy w' v.ownBlock ∧ (v'.ownBlock = v.ownBlock ∨ v'.ownBlock = some w.heap.size) := by
    cases A with
    | none =>
      obtain rfl := hA rfl
      obtain rfl : news = [] := List.eq_nil_of_length_eq_zero (by simpa using hl)
      exact ⟨v, w, append_none w base t o.type e i size ht hi v n xs hown c, by simpa using hown, ⟨rfl, rfl, rfl, Nat.le_refl _, fun _ _ _ => rfl⟩, .inl rfl⟩
    | some ad =>
      obtain ⟨v', w', hr, h2, h3, _, h5⟩ := run_append_own_at (P := P) w base t o.type e i z size bytes ht hi hz hsize hby hzs hsz v n xs hown ad m c news hl (hnews ad rfl) h1 h63 hbytes hbase
      exact ⟨v', w', hr, h2, h3, h5⟩
  obtain ⟨v', w', hr, h2, h3, h5⟩ := hrun
  unfold Oper.wp execOp
  simp only [ho, resolve, invoke, builtin, Sem.run_bind, Sem.run_pure, Result.andThen_ok, List.map_toArray, List.map_cons, List.map_nil, hs, hx, hr]
  exact h v' w' h2 h3 h5
/-- A file's row behind an append, its box written. -/
theorem DkAt.appended {w W4 : World} {d : Dk} (h : DkAt w d) {s : ByteArray} {f : Fl} (hl : lookF d.fs s = some f) {bs : List Int} (hB : Byte bs) {row' : Value} (hg : w.grownBy W4 f.row.ownBlock) (ho : OwnB 0 W4 row' (f.vw.has ++ bs)) (hat : row'.ownBlock = f.row.ownBlock ∨ row'.ownBlock = some w.heap.size)
    (hu : sizes (vws d.fs) + bs.length ≤ d.room) :
    DkAt (W4.setCell ⟨f.blk, 0, none⟩ row') { d with fs := updF d.fs s ⟨{ f.vw with has := f.vw.has ++ bs }, f.blk, row'⟩ } ∧ Kp f.own w (W4.setCell ⟨f.blk, 0, none⟩ row') := by
  obtain ⟨hm, hn⟩ := lookF_some hl
  subst hn
  have hf := h.files f hm
  have hne : some f.blk ≠ f.row.ownBlock := fun e => hf.apart e.symm
  have hk : Kp f.own w (W4.setCell ⟨f.blk, 0, none⟩ row') := (Kp.grown hg fun k hk => .inr hk).trans (Kp.setCell (own := f.own) _ _ _ (.inl rfl)) fun i hi => .inl hi
  have hrne : ∀ k, row'.ownBlock = some k → k ≠ f.blk := fun k hk e => by
    rcases hat with h2 | h2
    · rw [h2] at hk; exact hf.apart (e ▸ hk)
    · rw [h2] at hk; cases hk; have := hf.box.lt; omega
  have hsz := sizes_upd (f' := ⟨{ f.vw with has := f.vw.has ++ bs }, f.blk, row'⟩) h.names hl
  refine ⟨h.upd (f' := ⟨{ f.vw with has := f.vw.has ++ bs }, f.blk, row'⟩) hl rfl ⟨?_, ?_, ?_, hf.byte.append hB, fun e => hrne _ e rfl, hf.name⟩ hk.block (fun i hi => ?_) ?_, hk⟩
  · have := (hf.box.grown hg hne).put 0 row'
    exact this
  · exact ho.of_eq fun k hk2 => Below.heap_setCell _ _ _ _ (hrne k hk2)
  · have := hf.lasts; simp; omega
  · rcases hi with rfl | hi
    · exact .inl (.inl rfl)
    · rcases hat with h2 | h2
      · exact .inl (.inr (h2 ▸ hi))
      · rw [show row'.ownBlock = some i from hi] at h2; cases h2; exact .inr (Nat.le_refl _)
  · simp only [List.length_append] at hsz
    show sizes (vws (updF d.fs f.vw.name ⟨⟨f.vw.name, f.vw.has ++ bs, f.vw.lasts⟩, f.blk, row'⟩)) ≤ d.room
    omega
/-- A file is there to be appended to. -/
structure AppSt (d : Dk) (w : World) (s : ByteArray) (bs : List Int) (d1 : Dk) (f : Fl) (W : World) : Prop where
  at_ : DkAt W d1
  look : lookF d1.fs s = some f
  box : d1.B = d.B
  kp : Kp d.own w W
  own : ∀ i, d1.own i → d.own i ∨ w.heap.size ≤ i
  code : (d.md.app s bs).2 = 0
  md : ∀ row', ({ d1 with fs := updF d1.fs s ⟨{ f.vw with has := f.vw.has ++ bs }, f.blk, row'⟩ } : Dk).md = (d.md.app s bs).1
  fits : sizes (vws d1.fs) + bs.length ≤ d1.room
theorem AppSt.done {d d1 : Dk} {w W W4 : World} {s : ByteArray} {bs : List Int} {f : Fl} (h : AppSt d w s bs d1 f W) (hB : Byte bs) {row' : Value} (hg : W.grownBy W4 f.row.ownBlock) (ho : OwnB 0 W4 row' (f.vw.has ++ bs)) (hat : row'.ownBlock = f.row.ownBlock ∨ row'.ownBlock = some W.heap.size) :
    Res d w (d.md.app s bs) (.returned (.int .u16 0)) (W4.setCell ⟨f.blk, 0, none⟩ row') := by
  obtain ⟨h1, h2⟩ := h.at_.appended h.look hB hg ho hat h.fits
  have hm := (lookF_some h.look).1
  refine ⟨by rw [h.code], _, h1, h.md _, h.box, h.kp.trans h2 (fun i hi => h.own i (.inr (.inr ⟨f, hm, hi⟩))), fun i hi => ?_⟩
  rcases hi with rfl | rfl | ⟨g, hg2, hi⟩
  · exact h.own _ (.inl rfl)
  · exact h.own _ (.inr (.inl rfl))
  · obtain ⟨x, hx, rfl⟩ := List.mem_map.1 hg2
    split at hi
    · rcases hi with rfl | hi
      · exact h.own _ (.inr (.inr ⟨f, hm, .inl rfl⟩))
      · rcases hat with h3 | h3
        · exact h.own i (.inr (.inr ⟨f, hm, .inr (h3 ▸ hi)⟩))
        · rw [show row'.ownBlock = some i from hi] at h3; cases h3; exact .inr h.kp.size
    · exact h.own i (.inr (.inr ⟨x, hx, hi⟩))
theorem AppSt.found {d : Dk} {w W : World} {s : ByteArray} {bs : List Int} {f : Fl} (h : DkAt w d) (hb : Below w.heap.size w W) (hl : lookF d.fs s = some f) (hfull : d.full = false) (hu : sizes (vws d.fs) + bs.length ≤ d.room) : AppSt d w s bs d f W := by
  have he : d.md.app s bs = ({ d.md with fs := updV d.md.fs s fun f => { f with has := f.has ++ bs } }, 0) := by
    unfold Md.app
    rw [if_neg (by show ¬ (d.full = true ∨ d.room < sizes (vws d.fs) + bs.length); rw [hfull]; simp; omega)]
    have : d.md.look s = some f.vw := by show (vws d.fs).find? _ = _; rw [look_vws, hl]; rfl
    rw [this]
  refine ⟨h.below hb, hl, rfl, Kp.of_below hb, fun i hi => .inl hi, by rw [he], fun row' => ?_, hu⟩
  rw [he]
  show Md.mk _ _ _ _ = Md.mk _ _ _ _
  rw [vws_upd h.names hl (f' := ⟨{ f.vw with has := f.vw.has ++ bs }, f.blk, row'⟩) (g := fun f => { f with has := f.has ++ bs }) rfl]; rfl
/-- A new file stands in the map. -/
theorem AppSt.made {d : Dk} {w W : World} {s : ByteArray} {bs : List Int} (h : DkAt w d) {b : Nat} (hw0 : w.heap.size ≤ b) (hbox : Whole W b 65 #[.slice none 0 0, .int .i64 0]) (hk : ∀ i, i < w.heap.size → i ≠ d.M → W.heap[i]? = w.heap[i]?) (hkp : Kp d.own w W) {D : DataW Unit} {n : Nat}
    (hm : W.ownsMap Try.prog 9 ptrE d.M n (D.put (keyL s) (.lit (.int .i64 b)))) (ht : Maps.Tidy D) (hr : Rd D d.fs)
    (hl : lookF d.fs s = none) (hfull : d.full = false) (hu : sizes (vws d.fs) + bs.length ≤ d.room) (h64 : d.fs.length < 64) (hs0 : s.size ≠ 0) (hs30 : s.size ≤ 30) :
    AppSt d w s bs { d with fs := d.fs ++ [⟨⟨s, [], 0⟩, b, .slice none 0 0⟩] } ⟨⟨s, [], 0⟩, b, .slice none 0 0⟩ W := by
  have he : d.md.app s bs = ({ d.md with fs := d.md.fs ++ [⟨s, bs, 0⟩] }, 0) := by
    unfold Md.app
    rw [if_neg (by show ¬ (d.full = true ∨ d.room < sizes (vws d.fs) + bs.length); rw [hfull]; simp; omega)]
    have : d.md.look s = none := by show (vws d.fs).find? _ = _; rw [look_vws, hl]; rfl
    rw [this]
    show (if 64 ≤ (vws d.fs).length ∨ s.size = 0 ∨ 30 < s.size then _ else _) = _
    rw [if_neg (by rw [show (vws d.fs).length = d.fs.length from List.length_map ..]; omega)]
  have hr2 := hr.put ht (f := ⟨⟨s, [], 0⟩, b, .slice none 0 0⟩) hl
  have hlk : lookF (d.fs ++ [⟨⟨s, [], 0⟩, b, .slice none 0 0⟩]) s = some ⟨⟨s, [], 0⟩, b, .slice none 0 0⟩ := by rw [lookF_append, hl]; simp
  have hsz : sizes (vws (d.fs ++ [⟨⟨s, [], 0⟩, b, .slice none 0 0⟩])) = sizes (vws d.fs) := by
    unfold vws; rw [List.map_append, sizes_append]; simp [sizes]
  have hown : ∀ i, (⟨⟨s, [], 0⟩, b, .slice none 0 0⟩ : Fl).own i → w.heap.size ≤ i := fun i hi => by
    rcases hi with rfl | hi
    · exact hw0
    · cases hi
  have hat := h.add (f := ⟨⟨s, [], 0⟩, b, .slice none 0 0⟩) (w' := W) hl ⟨hbox, World.ownsRow_nil _ _ _ _, Nat.le_refl _, fun x hx => (by cases hx), fun e => (by cases e), hs30⟩
    ⟨_, ownsMap_tight hm (by have := hr2.size; rw [this]; simp), hr2⟩ hk hown (by rw [hsz]; exact h.used) h64
  refine ⟨hat, hlk, rfl, hkp, fun i hi => ?_, by rw [he], fun row' => ?_, by rw [hsz]; exact hu⟩
  · rcases hi with rfl | rfl | ⟨g, hg, hi⟩
    · exact .inl (.inl rfl)
    · exact .inl (.inr (.inl rfl))
    · rcases List.mem_append.1 hg with hg | hg
      · exact .inl (.inr (.inr ⟨g, hg, hi⟩))
      · simp at hg; subst hg; exact .inr (hown i hi)
  · rw [he]
    show Md.mk _ _ _ _ = Md.mk _ _ _ _
    congr 1
    show vws (updF (d.fs ++ [_]) s _) = vws d.fs ++ [_]
    have hn := lookF_none hl
    unfold vws updF
    rw [List.map_append, List.map_append]
    congr 1
    · rw [List.map_map]
      refine List.map_congr_left fun g hg => ?_
      show (if g.vw.name = s then _ else g).vw = g.vw
      rw [if_neg (hn g hg)]
    · simp
theorem sclone_any (s : ByteArray) (w : World) (hs : s.size ≤ 281474976710656) : Calls Try.prog 29 #[.string s] w fun e w' => e = .returned (.string s) ∧ Below w.heap.size w w' := by
  have H := Lib.hid (Try.stringslite_Clone s w hs)
  clear hs
  go_enter Try.func29, Try.ntmps29
  go_wp2_with (go_at_call 54; refine H.out.mono ?_; rintro e w' ⟨rfl, hb⟩; have HB := Lib.hid hb; clear hb)
  go_ret
  exact ⟨rfl, HB.out⟩
theorem own_shape {W : World} {base n size : Nat} {e : TypeId} {v : Value} {xs : List Value} (h : W.ownsRow base e size v n xs) : ∃ A c, v = .slice A n c := by
  rcases h.2 with ⟨rfl, rfl⟩ | ⟨g, cap, cur, rfl, _⟩
  · exact ⟨none, 0, rfl⟩
  · exact ⟨_, cap, rfl⟩
theorem turned_cell {w5 w6 : World} {M b o : Nat} {v : Value} (ht : w5.mapTurned w6 M) (hne : b ≠ M) (h : w5.cell? ⟨b, o, none⟩ = some v) : w6.cell? ⟨b, o, none⟩ = some v :=
  (World.cell?_of_block (a := ⟨b, o, none⟩) (ht.grown.block b (World.block_lt_of_cell? w5 _ h) (fun e => hne (Option.some.inj e)))).trans h
abbrev newF (wc : World) : World := wc.alloc (.cells #[.slice none 0 0, .int .i64 0] 65)
theorem AppSt.lay {d : Dk} {w wc w5 w6 : World} {s : ByteArray} {bs : List Int} {D : DataW Unit} {n : Nat} (h : DkAt w d) (hb : Below w.heap.size w wc) (h5 : Below (newF wc).heap.size (newF wc) w5) (ht : Maps.Tidy D) (hr : Rd D d.fs)
    (hm : w6.ownsMap Try.prog 9 ptrE d.M n (D.put (keyL s) (.lit (.int .i64 wc.heap.size)))) (htn : w5.mapTurned w6 d.M)
    (hl : lookF d.fs s = none) (hfull : d.full = false) (hu : sizes (vws d.fs) + bs.length ≤ d.room) (h64 : d.fs.length < 64) (hs0 : s.size ≠ 0) (hs30 : s.size ≤ 30) :
    ∃ d1 f, (Value.pointer (some ⟨wc.heap.size, 0, none⟩)) = .pointer (some ⟨f.blk, 0, none⟩) ∧ AppSt d w s bs d1 f w6 := by
  have hg := htn.grown
  have hM := h.mlt
  have hsz := hb.size
  have hs5 := h5.size
  have e6 : ∀ i, i < w5.heap.size → i ≠ d.M → w6.heap[i]? = w5.heap[i]? := fun i hi hn => hg.block i hi fun e => hn (Option.some.inj e)
  have e5 : ∀ i, i < wc.heap.size → w5.heap[i]? = wc.heap[i]? := fun i hi => (h5.block i (by simp; omega)).trans (Below.heap_alloc _ _ _ hi)
  refine ⟨_, _, rfl, AppSt.made h (b := wc.heap.size) hsz ?_ (fun i hi hn => (e6 i (by simp at hs5; omega) hn).trans ((e5 i (by omega)).trans (hb.block i hi))) ?_ hm ht hr hl hfull hu h64 hs0 hs30⟩
  · exact ((Whole.new wc _ _).below h5 (by simp)).of_eq (e6 _ (by simp at hs5; omega) (by omega))
  · exact ((Kp.of_below hb).trans (Kp.of_below (own := d.own) (((Below.refl _ _).alloc (Nat.le_refl _) _).trans (h5.mono (by simp)))) (fun i hi => .inl hi)).trans (Kp.grown (own := d.own) hg fun k hk => .inr (.inl (by cases hk; rfl))) fun i hi => .inl hi
theorem no_letters (s : ByteArray) : s.toList.isEmpty = decide (s.size = 0) := by
  rw [ByteArray.toList_eq]
  cases s with
  | mk a =>
    show a.toList.isEmpty = decide (a.size = 0)
    rw [← Array.length_toList]
    cases a.toList <;> simp
set_option maxRecDepth 100000 in
set_option maxHeartbeats 4000000 in
theorem app_any {w : World} {d : Dk} (h : DkAt w d) (p0 p1 p2 : Nat) (A : Option Addr) (c : Nat) (s : ByteArray) (bs : List Int) (q0 : w.cell? ⟨p0, 0, none⟩ = some (.pointer (some ⟨d.B, 0, none⟩))) (q1 : w.cell? ⟨p1, 0, none⟩ = some (.slice A bs.length c)) (q2 : w.cell? ⟨p2, 0, none⟩ = some (.string s))
    (o0 : ¬ d.own p0) (o1 : ¬ d.own p1) (o2 : ¬ d.own p2) (hA : Src d.own w A bs) (hs : s.size ≤ maxLen) (hB : Byte bs) (hl : bs.length ≤ 9223372036854775807) :
    Calls Try.prog 28 #[.pointer (some ⟨p0, 0, none⟩), .pointer (some ⟨p1, 0, none⟩), .pointer (some ⟨p2, 0, none⟩)] w (Res d w (d.md.app s bs)) := by
  obtain ⟨c0, c1, c2, c3, cf⟩ := h.cells
  have H := Lib.hid h
  have HA := Lib.hid hA
  have HO := Lib.hid (And.intro o0 (And.intro o1 o2))
  have HS := Lib.hid (And.intro hs (And.intro hB hl))
  by_cases hfull : d.full = true
  · have HR : Hid (d.md.app s bs = (d.md, 130)) := Lib.hid (by unfold Md.app; exact if_pos (.inl hfull))
    rw [hfull] at c2
    clear c1 c3 cf h hA o0 o1 o2 hs hB hl hfull
    go_enter Try.func28, Try.ntmps28
    go_wp2_with fail
    go_quiet (fail)
    go_wp2
    go_ret
    exact Res.same H.out (below_drewN (Below.refl _ _) _) HR.out
  · replace hfull : d.full = false := by simpa using hfull
    rw [hfull] at c2
    have HU := Lib.hid (used_at h)
    have hu := h.used
    have hr := h.room
    have KEEP := Lib.hid (fun (W : World) (hb : Below w.heap.size w W) => (show W.cell? ⟨p0, 0, none⟩ = some (.pointer (some ⟨d.B, 0, none⟩)) ∧ W.cell? ⟨p1, 0, none⟩ = some (.slice A bs.length c) ∧ W.cell? ⟨d.B, 0, none⟩ = some (.int .i64 d.room) ∧ W.cell? ⟨d.B, 2, none⟩ = some (.bool false) from
      ⟨(hb.cell (World.block_lt_of_cell? w _ q0)).trans q0, (hb.cell (World.block_lt_of_cell? w _ q1)).trans q1, (hb.cell h.box.lt).trans c0, (hb.cell h.box.lt).trans c2⟩))
    have b0 : ((d.room : Nat) : Int) - (sizes (vws d.fs) : Nat) ≤ 9223372036854775807 ∧ -9223372036854775808 ≤ ((d.room : Nat) : Int) - (sizes (vws d.fs) : Nat) := by omega
    have HF := Lib.hid (And.intro hfull (And.intro q2 (And.intro hu hr)))
    clear c1 c3 cf h hA o0 o1 o2 hs hB hfull q2 hu hr
    go_enter Try.func28, Try.ntmps28
    go_upto_region 1 with fail
    go_cut [20] (fun v W => v = .bool (decide (IntKind.i64.wrap ((d.room : Int) - (sizes (vws d.fs) : Nat)) < (bs.length : Int))) ∧ Below w.heap.size w W)
    case first =>
      go_region_held3 (fun W => W.cell? ⟨p0, 0, none⟩ = some (.pointer (some ⟨d.B, 0, none⟩)) ∧ W.cell? ⟨p1, 0, none⟩ = some (.slice A bs.length c) ∧ W.cell? ⟨d.B, 0, none⟩ = some (.int .i64 d.room) ∧ W.cell? ⟨d.B, 2, none⟩ = some (.bool false))
        (first | exact KEEP.out _ B5.out | exact KEEP.out _ (Below.refl _ _).drew)
        (first
          | (go_at_call 16; ((with_reducible refine (HU.out _ (by first | exact (Below.refl _ _).drew | exact Below.refl _ _)).mono ?_); rintro e w5 ⟨rfl, hb5⟩; have B5 := Lib.hid hb5; clear hb5)))
      all_goals go_wp2_with fail
      all_goals go_meet
      all_goals exact ⟨rfl, B5.out⟩
    case rest =>
      obtain ⟨rfl, hbc⟩ := hcut
      have HC := Lib.hid hbc
      have hd := H.out.below hbc
      obtain ⟨hfull, hq2, hu, hr⟩ := HF.out
      obtain ⟨r0, r1, r2, _⟩ := hd.cells.2.2.2 |> fun _ => hd.cells
      have r3 := (hbc.cell (World.block_lt_of_cell? w _ q0)).trans q0
      have r4 := (hbc.cell (World.block_lt_of_cell? w _ q1)).trans q1
      have r5 := (hbc.cell (World.block_lt_of_cell? w _ hq2)).trans hq2
      by_cases hlong : d.room < sizes (vws d.fs) + bs.length
      · have hdec : decide (IntKind.i64.wrap ((d.room : Int) - (sizes (vws d.fs) : Nat)) < (bs.length : Int)) = true := decide_eq_true (by rw [IntKind.wrap_i64]; omega)
        have HR : Hid (d.md.app s bs = (d.md, 130)) := Lib.hid (by unfold Md.app; exact if_pos (.inr hlong))
        rw [hdec]
        clear hdec hlong hbc hd hfull hq2 hu hr r0 r1 r2 r3 r4 r5
        go_wp2
        go_ret
        exact Res.same H.out HC.out HR.out
      · have hdec : decide (IntKind.i64.wrap ((d.room : Int) - (sizes (vws d.fs) : Nat)) < (bs.length : Int)) = false := decide_eq_false (by rw [IntKind.wrap_i64]; omega)
        have HL := Lib.hid (show sizes (vws d.fs) + bs.length ≤ d.room by omega)
        have hlook := fun n => (show DkAt (wc.drewN n) d from hd.keep fun _ _ => rfl).look (s := s) HS.out.1
        rw [hdec]
        clear hdec hlong hbc hd hfull hq2 hu hr r0 r2 r4
        go_upto_region 3 with fail
        go_cut [4] (fun v W => v = ptrV ((lookF d.fs s).map Fl.blk) ∧ Below w.heap.size w W)
        case first =>
          go_quiet (fail)
          go_wp2_with fail
          go_meet
          exact ⟨rfl, below_drewN HC.out _⟩
        case rest =>
          obtain ⟨rfl, hb2⟩ := hcut
          have HB2 := Lib.hid hb2
          have hd2 := H.out.below hb2
          have t1 := hd2.cells.2.1
          have hq2 := HF.out.2.1
          have t3 := (hb2.cell (World.block_lt_of_cell? w _ q0)).trans q0
          have t5 := (hb2.cell (World.block_lt_of_cell? w _ hq2)).trans hq2
          have t4 := (hb2.cell (World.block_lt_of_cell? w _ q1)).trans q1
          have HQ := Lib.hid (And.intro hb2 (And.intro hd2 t4))
          clear hb2 hd2 hq2 t4 hlook r1 r3 r5
          go_upto_region 4 with fail
          go_cut [4, 28] (fun v b W => v = ptrV ((lookF d.fs s).map Fl.blk) ∧ b = .bool (lookF d.fs s).isNone ∧ W = wc)
          case first =>
            cases hlk : lookF d.fs s with
            | some f =>
              rw [Option.map_some]
              unfold ptrV
              rw [Option.map_some]
              go_wp2_with fail
              go_meet
              exact ⟨by first | rfl | (rw [hlk]; rfl), by first | rfl | (rw [hlk]; rfl), rfl⟩
            | none =>
              rw [Option.map_none]
              unfold ptrV
              rw [Option.map_none]
              go_wp2_with fail
              go_meet
              exact ⟨by first | rfl | (rw [hlk]; rfl), by first | rfl | (rw [hlk]; rfl), rfl⟩
          case rest =>
            obtain ⟨rfl, rfl, rfl⟩ := hcut
            go_upto_if 28 with fail
            go_cut [4] (fun v W => ∃ d1 f, v = .pointer (some ⟨f.blk, 0, none⟩) ∧ AppSt d w s bs d1 f W)
            case first =>
              cases hlk : lookF d.fs s with
              | some f =>
                have HR := Lib.hid (AppSt.found (s := s) (bs := bs) H.out HB2.out hlk HF.out.1 HL.out)
                rw [Option.map_some, Option.isNone_some]
                unfold ptrV
                rw [Option.map_some]
                go_wp2_with fail
                go_meet
                exact ⟨d, f, rfl, HR.out⟩
              | none =>
                rw [Option.map_none, Option.isNone_none]
                unfold ptrV
                rw [Option.map_none]
                obtain ⟨D, hown, hrd⟩ := HQ.out.2.1.map
                have hlen := fun ty => hrd.size ▸ hown.len Try.underlying53 ty
                have HM := Lib.hid (And.intro hown (And.intro hrd (hown.tidy lawS)))
                have HK := Lib.hid hlk
                have HE : ∀ (p : 64 ≤ d.fs.length ∨ s.size = 0 ∨ 30 < s.size), d.md.app s bs = (d.md, 130) := fun p => by
                  unfold Md.app
                  rw [if_neg (by have h1 := HF.out.1; have h2 := HL.out; show ¬ (d.full = true ∨ d.room < sizes (vws d.fs) + bs.length); rw [h1]; simp; omega)]
                  have : d.md.look s = none := by show (vws d.fs).find? _ = _; rw [look_vws, HK.out]; rfl
                  rw [this]
                  show (if 64 ≤ (vws d.fs).length ∨ s.size = 0 ∨ 30 < s.size then _ else _) = _
                  rw [if_pos (by rw [show (vws d.fs).length = d.fs.length from List.length_map ..]; exact p)]
                have HEE := Lib.hid HE
                clear HE hown hrd hlk
                by_cases h64 : 64 ≤ d.fs.length
                · have d1 : decide ((64 : Int) ≤ (d.fs.length : Int)) = true := decide_eq_true (by omega)
                  have HR := Lib.hid (HEE.out (by omega))
                  clear HEE h64
                  go_wp2
                  go_ret
                  exact Res.same H.out HB2.out HR.out
                have d1 : decide ((64 : Int) ≤ (d.fs.length : Int)) = false := decide_eq_false (by omega)
                by_cases hs0 : s.size = 0
                · have d2 : s.toList.isEmpty = true := by rw [no_letters]; exact decide_eq_true hs0
                  have HR := Lib.hid (HEE.out (by omega))
                  clear HEE h64 hs0
                  go_wp2
                  go_ret
                  exact Res.same H.out HB2.out HR.out
                have d2 : s.toList.isEmpty = false := by rw [no_letters]; exact decide_eq_false hs0
                by_cases hs30 : 30 < s.size
                · have d3 : decide ((30 : Int) < (s.size : Int)) = true := decide_eq_true (by omega)
                  have HR := Lib.hid (HEE.out (by omega))
                  clear HEE h64 hs0 hs30
                  go_wp2
                  go_ret
                  exact Res.same H.out HB2.out HR.out
                have d3 : decide ((30 : Int) < (s.size : Int)) = false := decide_eq_false (by omega)
                · have HG := Lib.hid (show d.fs.length < 64 ∧ s.size ≠ 0 ∧ s.size ≤ 30 by omega)
                  clear h64 hs0 hs30
                  go_upto_region 8 with fail
                  clear HEE
                  have hsz1 : s.size ≤ 281474976710656 := by have := HG.out.2.2; omega
                  have HCL := Lib.hid (fun W => sclone_any s W hsz1)
                  clear hsz1
                  have KP := Lib.hid (fun (W : World) (hb : Below wc.heap.size wc W) => (show W.cell? ⟨p0, 0, none⟩ = some (.pointer (some ⟨d.B, 0, none⟩)) ∧ W.cell? ⟨d.B, 1, none⟩ = some (.map (some d.M)) ∧ W.cell? ⟨p2, 0, none⟩ = some (.string s) from
                    ⟨(hb.cell (World.block_lt_of_cell? wc _ t3)).trans t3, (hb.cell (World.block_lt_of_cell? wc _ t1)).trans t1, (hb.cell (World.block_lt_of_cell? wc _ t5)).trans t5⟩))
                  have BN := Lib.hid (show Below wc.heap.size wc (newF wc) from (Below.refl _ _).alloc (Nat.le_refl _) _)
                  obtain ⟨k0, k1, k2⟩ := KP.out _ BN.out
                  clear t1 t3 t5
                  go_region_held3 (fun W => W.cell? ⟨p0, 0, none⟩ = some (.pointer (some ⟨d.B, 0, none⟩)) ∧ W.cell? ⟨d.B, 1, none⟩ = some (.map (some d.M)) ∧ W.cell? ⟨p2, 0, none⟩ = some (.string s))
                    (first | exact K6.out | exact KP.out _ B5.out | exact KP.out _ BN.out.drew | exact KP.out _ BN.out)
                    (first
                      | (go_at_call 29; ((with_reducible refine (HCL.out _).mono ?_); rintro e w5 ⟨rfl, hb5⟩; have B5n := Lib.hid (show Below (newF wc).heap.size (newF wc) w5 from (Below.refl _ _).drew.trans (hb5.mono (Nat.le_refl _))); have B5 := Lib.hid (BN.out.trans (B5n.out.mono BN.out.size)); obtain ⟨w6, hrun6, hown6, hturn6⟩ := (ownsMap_of_eq HM.out.1 (B5.out.block _ (HQ.out.2.1.mlt))).store lawS Try.underlying53 (by unfold maxLen; have := HG.out.1; omega) (key_of HS.out.1) (show ptrE (.pointer (some ⟨wc.heap.size, 0, none⟩)) = some (.lit (.int .i64 wc.heap.size), []) from ptrE_mk _); have H6 := Lib.hid (And.intro hown6 hturn6); have K6 := Lib.hid (And.intro (turned_cell hturn6 (fun e => HO.out.1 (.inr (.inl e))) (KP.out _ B5.out).1) (And.intro (turned_cell hturn6 H.out.bm (KP.out _ B5.out).2.1) (turned_cell hturn6 (fun e => HO.out.2.2 (.inr (.inl e))) (KP.out _ B5.out).2.2))); clear hb5 hown6 hturn6)))
                  all_goals go_wp2_with fail
                  all_goals go_meet
                  all_goals exact AppSt.lay H.out HB2.out B5n.out HM.out.2.2 HM.out.2.1 H6.out.1 H6.out.2 HK.out HF.out.1 HL.out HG.out.1 HG.out.2.1 HG.out.2.2
            case rest =>
              obtain ⟨d1, f, rfl, hst⟩ := hcut
              have hf := hst.at_.files f (lookF_some hst.look).1
              obtain ⟨A1, c1, hrow, hcap, _⟩ := own_bytes hf.row rfl
              have e0 : wc.cell? ⟨f.blk, 0, none⟩ = some (.slice A1 f.vw.has.length c1) := by rw [hf.box.cell]; show some f.row = _; rw [hrow]
              have e1 : wc.cell? ⟨p1, 0, none⟩ = some (.slice A bs.length c) := (World.cell?_of_block (a := ⟨p1, 0, none⟩) (hst.kp.block p1 (World.block_lt_of_cell? w _ q1) HO.out.2.1)).trans q1
              have hsrc := HA.out.kp hst.kp
              have hfit := hst.fits
              have hrm := hst.at_.room
              have hle : f.vw.has.length ≤ sizes (vws d1.fs) := sizes_mem (f := f.vw) (List.mem_map.2 ⟨f, (lookF_some hst.look).1, rfl⟩)
              have HN := Lib.hid (show f.vw.has.length + bs.length ≤ maxLen ∧ (f.vw.has.length + bs.length) * 1 ≤ 140737488355328 by unfold maxLen; omega)
              have HST := Lib.hid hst
              have HROW := Lib.hid (show OwnB 0 wc.drew (.slice A1 f.vw.has.length c1) f.vw.has from hrow ▸ hf.row)
              have HSRC := Lib.hid (show Bytes wc.heap.size wc.drew A bs from hsrc.bytes)
              have HEQ := Lib.hid hrow
              have HF1 := Lib.hid hf
              obtain ⟨i0, hi, hz0, hz1, hz2⟩ := info_parts infoByte
              have HI := Lib.hid (And.intro hi (And.intro hz0 (And.intro hz1 hz2)))
              clear hi hz0 hz1 hz2 hf hrow hcap hsrc hfit hrm hle hst q0 q1 c0 c2 b0 hl
              go_upto_region 9 with fail
              go_region_law (refine step_append_at rfl (.tmp 57) (.tmp 58) 22 rfl 0 5 i0 _ 1 1 Try.underlying22 HI.out.1 HI.out.2.1 HI.out.2.2.1 HI.out.2.2.2 rfl (by decide) (.slice A1 f.vw.has.length c1) f.vw.has.length (cellsB f.vw.has) (by simp [Act.eval, Act.put]) HROW.out A bs.length c (cellsB bs) (by simp [Act.eval, Act.put]) HSRC.out.none (by simp [cellsB]) (cellsB_from HSRC.out) (cellsB_one bs) HN.out.1 HN.out.2 (Nat.zero_le _) ?_; intro v4 W4 hown4 hg4 hat4; obtain ⟨A4, c4, rfl⟩ := own_shape hown4; have H4 := Lib.hid (And.intro hown4 (And.intro hg4 hat4)); have x0 := (HF1.out.box.of_eq (hg4.block f.blk HF1.out.box.lt (fun e => HF1.out.apart (by rw [HEQ.out]; exact e.symm)))).cell 0; have x1 := (HF1.out.box.of_eq (hg4.block f.blk HF1.out.box.lt (fun e => HF1.out.apart (by rw [HEQ.out]; exact e.symm)))).frozen 0; clear hown4 hg4 hat4)
              all_goals go_wp2
              all_goals go_ret
              all_goals exact HST.out.done HS.out.2.1 (row' := .slice A4 (f.vw.has.length + bs.length) c4) (by rw [HEQ.out]; exact ⟨H4.out.2.1.os, H4.out.2.1.tape, H4.out.2.1.output, H4.out.2.1.size, H4.out.2.1.block⟩) (by unfold OwnB; rw [cellsB_app, List.length_append]; exact H4.out.1) (by rw [HEQ.out]; exact H4.out.2.2)
end Go.Proofs.Ytkieacidpiffpaa
