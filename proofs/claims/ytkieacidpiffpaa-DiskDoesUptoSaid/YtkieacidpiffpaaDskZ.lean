/- The document's own disk: its list cut and put together anew; Read, Drop. -/
import Derived.Test.YtkieacidpiffpaaDskY
namespace Go.Proofs.Ytkieacidpiffpaa
open Go Go.RowKit Go.Shelf
set_option linter.unusedVariables false
set_option linter.unusedSimpArgs false

theorem infoFile : (Try.prog.info? 87).map (fun i => (i.zero, i.size, i.bytes)) = some (some (.agg #[.string ⟨#[]⟩, .slice none 0 0, .int .i64 0]), 3, 48) := by kernel_rfl
theorem size_file (W : World) : (sizeOf (Try.prog.elem 72)).run Try.prog W = .ok 3 W := by
  obtain ⟨i0, hi, hz0, hz1, hz2⟩ := info_parts infoFile
  rw [show Try.prog.elem 72 = 87 by kernel_rfl]
  simp [sizeOf, typeInfo, hi, hz1]
theorem under_files : Try.prog.underlying 72 = some (.slice (Try.prog.elem 72)) := by
  rw [show Try.prog.elem 72 = 87 by kernel_rfl]; exact Try.underlying72
def cutAtF (A : Option Addr) (l c : Nat) : Option Addr := if c = l then A else A.map (·.add (l * 3))
theorem runF_h (A : Option Addr) (n c h : Nat) (hh : h ≤ c) (W : World) (z : Int) (hz : z = h) :
    (Instr.slice 72 (.slice A n c) none (some (.int .i64 z)) none).run Try.prog W = .ok (.slice (cutAtF A 0 c) h c) W := by
  subst hz
  rw [run_slice_h W _ A n c under_files .i64 h (by omega) (by omega), size_file]; rfl
theorem runF_l (A : Option Addr) (n c l : Nat) (hl : l ≤ n) (W : World) (z : Int) (hz : z = l) :
    (Instr.slice 72 (.slice A n c) (some (.int .i64 z)) none none).run Try.prog W = .ok (.slice (cutAtF A l c) (n - l) (c - l)) W := by
  subst hz
  rw [run_slice_l W _ A n c under_files .i64 l (by omega) (by omega), size_file]; rfl
theorem cutF_none {A : Option Addr} {l c n : Nat} (hA : A = none → n = 0) (h : cutAtF A l c = none) : n = 0 := by
  unfold cutAtF at h
  split at h
  · exact hA h
  · cases A with
    | none => exact hA rfl
    | some a => cases h
/-- Where a cut of the list stands. -/
theorem cutF_from {w : World} {r : Rk} {A : Option Addr} {n c : Nat} (hrow : w.ownsRow 0 87 3 (.slice A n c) n (cellsF r.fs)) (hn : n = r.fs.length) {l h : Nat} (hl : l ≤ h) (hh : h ≤ n) :
    ∀ ad, cutAtF A l c = some ad → ∀ j u, (cellsF ((r.fs.take h).drop l))[j]? = some u → w.cell? (ad.add j) = some u := by
  intro ad he j u hj
  rcases hrow.2 with ⟨e, _⟩ | ⟨g, cap, cur, e, _, _, hnc, _⟩
  · cases e
    unfold cutAtF at he
    split at he <;> cases he
  cases e
  have hj2 : j < (h - l) * 3 := by
    have := (List.getElem?_eq_some_iff.1 hj).1
    rw [cellsF_length, List.length_drop, List.length_take] at this
    have h3 : min h r.fs.length = h := by omega
    rw [h3] at this; exact this
  have hlt : l < h := by omega
  have hcell := hrow.cellAt (l * 3 + j) (by omega)
  have hx : (cellsF r.fs)[l * 3 + j]? = some u := by
    rw [← cellsF_drop, ← cellsF_take, List.getElem?_drop, List.getElem?_take] at hj
    split at hj
    · exact hj
    · cases hj
  rw [hx] at hcell
  unfold cutAtF at he
  rw [if_neg (by omega)] at he
  simp only [Option.map_some, Option.some.injEq] at he
  subst he
  by_cases e0 : l = 0
  · subst e0
    by_cases e1 : j = 0
    · subst e1; simpa [Addr.add] using hcell
    · simpa [Addr.add, e1] using hcell
  · have e3 : ¬ l * 3 = 0 := by omega
    by_cases e1 : j = 0
    · subst e1; simpa [Addr.add, e3] using hcell
    · simpa [Addr.add, e3, e1, Nat.add_assoc] using hcell
/-- Another list, in new memory, whose files are old ones, or have nothing. -/
theorem RkAt.relist {w w2 : World} {r : Rk} (h : RkAt w r) {v : Value} {fs' : List Rf} (hrow : w2.ownsRow w.heap.size 87 3 v fs'.length (cellsF fs')) (hb : Below w.heap.size w w2)
    (hf : ∀ f ∈ fs', f ∈ r.fs ∨ (f.vw.has = [] ∧ f.vw.lasts = 0 ∧ f.vw.name.size ≤ 30)) (hu : sizes (rvs fs') ≤ r.room) (hm : fs'.length ≤ 64) :
    RkAt (w2.setCell ⟨r.B, 1, none⟩ v) { r with F := v, fs := fs' } ∧ Kp r.own w (w2.setCell ⟨r.B, 1, none⟩ v) ∧ ∀ i, ({ r with F := v, fs := fs' } : Rk).own i → r.own i ∨ w.heap.size ≤ i := by
  have hlt := h.box.lt
  have hv : ∀ i, v.ownBlock = some i → w.heap.size ≤ i := fun i hi => (hrow.lt i hi).1
  have hset : ∀ i, i ≠ r.B → (w2.setCell ⟨r.B, 1, none⟩ v).heap[i]? = w2.heap[i]? := fun i hi => Below.heap_setCell _ _ _ _ hi
  refine ⟨⟨?_, ?_, fun e => by have := hv r.B e; omega, fun f hf2 => ?_, fun f hf2 => ?_, fun f hf2 => ?_, fun f hf2 => ?_, fun f hf2 => ?_, hu, h.room, hm, h.left⟩, (Kp.of_below hb).trans (Kp.setCell (own := r.own) _ _ _ (.inl (.inl rfl))) fun i hi => .inl hi, fun i hi => ?_⟩
  · have := (h.box.below hb hlt).put 1 v
    exact this
  · refine row_of_eq (w := w2) ⟨hrow.1, hrow.2.imp id ?_⟩ fun k hk => hset k fun e => by have := hv k hk; omega
    rintro ⟨g, cap, cur, e, _, q⟩
    exact ⟨g, cap, cur, e, Nat.zero_le _, q⟩
  · rcases hf f hf2 with h1 | ⟨h1, _⟩
    · intro hne
      obtain ⟨b, o, e, hnw, hbl, hc⟩ := h.bytes f h1 hne
      refine ⟨b, o, e, fun hw => ?_, ?_, fun i x hx => ?_⟩
      · rcases hw with hw | hw
        · exact hnw (.inl hw)
        · have := hv b hw; omega
      · have : b < w2.heap.size := Nat.lt_of_lt_of_le hbl hb.size
        simpa [World.setCell] using this
      · have h3 : b ≠ r.B := fun e => hnw (.inl e)
        exact ((World.cell?_of_block (a := ⟨b, o + i, none⟩) (hset b h3)).trans (hb.cell (p := ⟨b, o + i, none⟩) hbl)).trans (hc i x hx)
    · rw [h1]; exact fun hne => absurd rfl hne
  · rcases hf f hf2 with h1 | ⟨h1, _⟩
    · exact h.cap f h1
    · rw [h1]; exact Nat.zero_le _
  · rcases hf f hf2 with h1 | ⟨h1, h2, _⟩
    · exact h.lasts f h1
    · rw [h2]; exact Nat.zero_le _
  · rcases hf f hf2 with h1 | ⟨h1, _⟩
    · exact h.byte f h1
    · rw [h1]; exact fun x hx => by cases hx
  · rcases hf f hf2 with h1 | ⟨_, _, h1⟩
    · exact h.name f h1
    · exact h1
  · rcases hi with (hi | hi) | ⟨f, hf2, hi⟩
    · exact .inl (.inl (.inl hi))
    · exact .inr (hv i hi)
    · rcases hf f hf2 with h1 | ⟨h1, _⟩
      · exact .inl (.inr ⟨f, h1, hi⟩)
      · exact absurd h1 hi.1
def rreadB (m : Rm) (s : ByteArray) : List Int := match idxR m.fs s with | none => [] | some k => match m.fs[k]? with | none => [] | some v => v.has
def rreadC (m : Rm) (s : ByteArray) : Int := match idxR m.fs s with | none => 131 | some _ => 0
def RReadOut (m : Rm) (s : ByteArray) (w : World) (e : Ending) (w' : World) : Prop :=
  ∃ B c, e = .returned (.tuple #[.slice B (rreadB m s).length c, .int .i64 (rreadC m s)]) ∧ OwnB w.heap.size w' (.slice B (rreadB m s).length c) (rreadB m s) ∧ Below w.heap.size w w'
theorem RkAt.src {w : World} {r : Rk} (h : RkAt w r) {f : Rf} (hf : f ∈ r.fs) : Bytes w.heap.size w f.A f.vw.has := (h.bytes f hf).bytes
theorem RkAt.len {w : World} {r : Rk} (h : RkAt w r) {f : Rf} (hf : f ∈ r.fs) : f.vw.has.length ≤ 1048576 := by
  have h1 : f.vw.has.length ≤ sizes (rvs r.fs) := sizes_mem (f := f.vw) (List.mem_map.2 ⟨f, hf, rfl⟩)
  have h2 := h.used
  have h3 := h.room
  omega
set_option maxHeartbeats 1000000 in
theorem rread_any {w : World} {r : Rk} (h : RkAt w r) (s : ByteArray) : Calls Try.prog 41 #[.pointer (some ⟨r.B, 0, none⟩), .string s] w (RReadOut r.rm s w) := by
  have HF := Lib.hid (rfind_any h s)
  cases hix : idxR (rvs r.fs) s with
  | none =>
    have HR : Hid (RReadOut r.rm s w (.returned (.tuple #[.slice none 0 0, .int .i64 131])) w) := Lib.hid (by
      unfold RReadOut rreadB rreadC; rw [show r.rm.fs = rvs r.fs from rfl, hix]; exact ⟨none, 0, rfl, World.ownsRow_nil _ _ _ _, Below.refl _ _⟩)
    rw [hix] at HF
    have HF2 : Hid (Calls Try.prog 57 #[.pointer (some ⟨r.B, 0, none⟩), .string s] w fun e w' => e = .returned (.int .i64 (-1)) ∧ w' = w) := HF
    clear HF hix h
    go_enter Try.func41, Try.ntmps41
    go_wp2_with (go_at_call 57; refine HF2.out.mono ?_; rintro e w2 ⟨rfl, rfl⟩)
    refine bodyPost_ret (v := .tuple #[.slice none 0 0, .int .i64 131]) (by simp [results, Try.results41, go_sem]) rfl ?_
    exact HR.out
  | some k =>
    obtain ⟨v, hv, _⟩ := idxR_some hix
    obtain ⟨f, hf, rfl⟩ := rvs_got hv
    have hlt : k < r.fs.length := (List.getElem?_eq_some_iff.1 hf).1
    have h64 := h.many
    have hmem := List.mem_of_getElem? hf
    have hlen := h.len hmem
    have hs := h.src hmem
    obtain ⟨i0, hi, hz0, hz1, hz2⟩ := info_parts infoByte
    have HI := Lib.hid (And.intro hi (And.intro hz0 (And.intro hz1 hz2)))
    have HS := Lib.hid hs
    have HL := Lib.hid hlen
    have HR : Hid (∀ v' w1, OwnB w.heap.size w1 v' f.vw.has → Below w.heap.size w w1 → RReadOut r.rm s w (.returned (.tuple #[v', .int .i64 0])) w1) := Lib.hid (by
      intro v' w1 ho hb
      obtain ⟨B, c, rfl⟩ := own_shape ho
      have e1 : rreadB r.rm s = f.vw.has := by
        unfold rreadB
        rw [show r.rm.fs = rvs r.fs from rfl, hix]
        show (match (rvs r.fs)[k]? with | none => [] | some v => v.has) = _
        rw [hv]
      have e2 : rreadC r.rm s = 0 := by unfold rreadC; rw [show r.rm.fs = rvs r.fs from rfl, hix]
      unfold RReadOut
      rw [e1, e2]
      exact ⟨B, c, rfl, ho, hb⟩)
    obtain ⟨g, c, hF, c1, f0, f1, f2, ff, hg⟩ := h.file hf
    rw [hix] at HF
    have HF2 : Hid (Calls Try.prog 57 #[.pointer (some ⟨r.B, 0, none⟩), .string s] w fun e w' => e = .returned (.int .i64 k) ∧ w' = w) := HF
    clear HF hix h hv hf hmem hlen hs hi hz0 hz1 hz2 hF f0 f2 ff hg
    go_enter Try.func41, Try.ntmps41
    go_wp2_with (first
      | (go_at_call 57; refine HF2.out.mono ?_; rintro e w2 ⟨rfl, rfl⟩)
      | (at_builtin; refine wpList_append_from _ rfl (.tmp 13) (.tmp 21) 22 rfl w2.heap.size 5 i0 _ 1 1 Try.underlying22 HI.out.1 HI.out.2.1 HI.out.2.2.1 HI.out.2.2.2 rfl (by decide) (.slice none 0 0) 0 [] rfl (World.ownsRow_nil _ _ _ _) f.A f.vw.has.length f.c (cellsB f.vw.has) rfl HS.out.none (by simp [cellsB]) (cellsB_from HS.out) (cellsB_one f.vw.has) (by have := HL.out; unfold maxLen; omega) (by have := HL.out; omega) (Nat.le_refl _) ?_; intro v' w1 hown hgrow hat; rw [Nat.zero_add, List.nil_append] at hown; have HX := Lib.hid (HR.out v' w1 hown (Below.grown (Below.refl _ _) hgrow (Nat.le_refl _) (fun k hk => by cases hk))); clear hown hgrow hat))
    refine bodyPost_ret (v := .tuple #[v', .int .i64 0]) (by simp [results, Try.results41, go_sem]) rfl ?_
    exact HX.out
end Go.Proofs.Ytkieacidpiffpaa
