/- With: an object's fields, and one more. -/
import Derived.Test.YtmmjkhkcffgeiaaDoorField
import Derived.Test.YtmmjkhkcffgeiaaDoorFresh
import Derived.OwnWalk
namespace Go.Proofs.YtmmjkhkcffgeiaaDoor
open Go Go.RowKit

section
variable {P : Program} (w : World)
theorem append_none (base : Nat) (t ty e : TypeId) (i : TypeInfo) (size : Nat) (ht : P.underlying t = some (.slice e)) (hi : P.info? e = some i) (v : Value) (n : Nat) (xs : List Value) (hown : w.ownsRow base e size v n xs) (c : Nat) :
    (Builtin.append_ #[t, t] ty #[v, .slice none 0 c]).run P w = .ok v w := by
  rcases hown.2 with ⟨rfl, rfl⟩ | ⟨_, _, _, rfl, _, _, hnc, _⟩ <;> simp [Builtin.append_, run_underlying ht, sizeOf, typeInfo, Builtin.lenOf, Builtin.firstCells, storeCells, *]
/-- An append to a row of the call's own, of cells that lie somewhere, or of nothing. -/
theorem wpList_append_from {ops : Array Oper} {rest : List Oper} {o : Oper} {a : Act} {Q : Exit → Act → World → Prop} (hgd : o.guard = none) (s x : Operand) (t : TypeId)
    (ho : o.op = .call { callee := .builtin .append, args := #[s, x], argTypes := #[t, t] })
    (base : Nat) (e : TypeId) (i : TypeInfo) (z : Value) (size bytes : Nat) (ht : P.underlying t = some (.slice e)) (hi : P.info? e = some i) (hz : i.zero = some z)
    (hsize : i.size = size) (hby : i.bytes = bytes) (hzs : z.cells.size = size) (hsz : 0 < size)
    (v : Value) (n : Nat) (xs : List Value) (hs : a.eval s = v) (hown : w.ownsRow base e size v n xs)
    (A : Option Addr) (m c : Nat) (news : List Value) (hx : a.eval x = .slice A m c) (hA : A = none → m = 0) (hl : news.length = m * size) (hnews : ∀ ad, A = some ad → ∀ j u, news[j]? = some u → w.cell? (ad.add j) = some u) (h1 : ∀ u ∈ news, u.oneCell' = true)
    (h63 : n + m ≤ maxLen) (hbytes : (n + m) * bytes ≤ 140737488355328) (hbase : base ≤ w.heap.size)
    (h : ∀ v' w', w'.ownsRow base e size v' (n + m) (xs ++ news) → w.grownBy w' v.ownBlock → (v'.ownBlock = v.ownBlock ∨ v'.ownBlock = some w.heap.size) → wpList P ops Q rest (a.put o.dst v') w') :
    wpList P ops Q (o :: rest) a w := by
  refine wpList_plain hgd fun K hK => ?_
  have hrun : ∃ v' w', (Builtin.append_ #[t, t] o.type #[v, .slice A m c]).run P w = .ok v' w' ∧ w'.ownsRow base e size v' (n + m) (xs ++ news) ∧ w.grownBy w' v.ownBlock ∧ (v'.ownBlock = v.ownBlock ∨ v'.ownBlock = some w.heap.size) := by
    cases A with
    | none =>
      obtain rfl := hA rfl
      obtain rfl : news = [] := List.eq_nil_of_length_eq_zero (by simpa using hl)
      exact ⟨v, w, append_none w base t o.type e i size ht hi v n xs hown c, by simpa using hown, ⟨rfl, rfl, rfl, Nat.le_refl _, fun _ _ _ => rfl⟩, .inl rfl⟩
    | some ad =>
      obtain ⟨v', w', hr, h2, h3, _, h5⟩ := run_append_own_at (P := P) w base t o.type e i z size bytes ht hi hz hsize hby hzs hsz v n xs hown ad m c news hl (hnews ad rfl) h1 h63 hbytes hbase
      exact ⟨v', w', hr, h2, h3, h5⟩
  obtain ⟨v', w', hr, h2, h3, h5⟩ := hrun
  unfold Oper.wp execOp
  simp only [ho, resolve, invoke, builtin, Sem.run_bind, Sem.run_pure, Result.andThen_ok, List.map_toArray, List.map_cons, List.map_nil, hs, hx, hr]
  exact hK _ _ (h v' w' h2 h3 h5)
end

theorem RowO.app {ok : Nat → Prop} {W : World} : ∀ {ks : List ByteArray} {ov : List GV} {xs : List Value} {ks' : List ByteArray} {ov' : List GV} {xs' : List Value}, RowO ok W ks ov xs → RowO ok W ks' ov' xs' → RowO ok W (ks ++ ks') (ov ++ ov') (xs ++ xs')
  | [], [], _, _, _, _, h, h' => by rw [show _ = ([] : List Value) from h]; exact h'
  | _ :: _, _ :: _, _, _, _, _, ⟨L, O, ys, e, hL, hO, hr⟩, h' => ⟨L, O, ys ++ _, by rw [e, List.append_assoc], hL, hO, RowO.app hr h'⟩
  | [], _ :: _, _, _, _, _, h, _ => h.elim
  | _ :: _, [], _, _, _, _, h, _ => h.elim

/-- How many fields are left away ahead of the rest. -/
def insN (key : ByteArray) (ks : List ByteArray) : Nat := place key ks + if there key ks = true then 1 else 0
def insK (key : ByteArray) (ks : List ByteArray) : List ByteArray := ks.take (place key ks) ++ key :: ks.drop (insN key ks)
def insV (key : ByteArray) (ks : List ByteArray) (ov : List GV) (g : GV) : List GV := ov.take (place key ks) ++ g :: ov.drop (insN key ks)
theorem insN_le (key : ByteArray) (ks : List ByteArray) : insN key ks ≤ ks.length := by
  have h := place_le key ks
  unfold insN
  split
  · rename_i ht
    have : place key ks < ks.length := by
      unfold there at ht
      rcases Nat.lt_or_ge (place key ks) ks.length with h' | h'
      · exact h'
      · rw [List.getElem?_eq_none h'] at ht; simp at ht
    omega
  · omega

/-- The row that the call makes. -/
structure St (w : World) (ok : Nat → Prop) (W : World) (v : Value) (n : Nat) (ks : List ByteArray) (ov : List GV) (xs : List Value) : Prop where
  below : Below w.heap.size w W
  size : w.heap.size + 1 ≤ W.heap.size
  own : W.ownsRow (w.heap.size + 1) 45 6 v n xs
  row : RowO (fun k => ok k ∧ k < w.heap.size) W ks ov xs
section
variable {w W W' : World} {ok : Nat → Prop} {v : Value} {n : Nat} {ks : List ByteArray} {ov : List GV} {xs : List Value}
theorem St.step (h : St w ok W v n ks ov xs) (hb : Below W.heap.size W W') : St w ok W' v n ks ov xs :=
  ⟨h.below.trans (hb.mono (by have := h.size; omega)), Nat.le_trans h.size hb.size, own_below h.own hb, h.row.keep (.of_below hb) (fun _ h _ => h)⟩
theorem St.app (h : St w ok W v n ks ov xs) {v' : Value} {m : Nat} {ks' : List ByteArray} {ov' : List GV} {news : List Value} (hr : RowO (fun k => ok k ∧ k < w.heap.size) W ks' ov' news)
    (hown : W'.ownsRow (w.heap.size + 1) 45 6 v' (n + m) (xs ++ news)) (hgrow : W.grownBy W' v.ownBlock) : St w ok W' v' (n + m) (ks ++ ks') (ov ++ ov') (xs ++ news) := by
  have hF : From (fun k => ok k ∧ k < w.heap.size) W W' := fun k hk hlt => hgrow.block k hlt (fun e => by have := (h.own.lt k e.symm).1; omega)
  exact ⟨h.below.grown hgrow (by have := h.size; omega) (fun k hk => by have := (h.own.lt k hk).1; omega), Nat.le_trans h.size hgrow.size, hown, (h.row.app hr).keep hF (fun _ h _ => h)⟩
theorem St.done (h : St w ok W v ov.length ks ov xs) : ObjV (fun k => ok k ∨ w.heap.size ≤ k) W v ks ov :=
  ObjV.of_own h.own (h.row.keep (From.refl _ _) fun k hk _ => .inl hk.1) fun k hk => .inr (by have := (h.own.lt k hk).1; omega)
end

theorem St.first {w W W' : World} {ok : Nat → Prop} (h : St w ok W (.slice none 0 0) 0 [] [] []) {v' : Value} {m : Nat} {ks' : List ByteArray} {ov' : List GV} {news : List Value} (hr : RowO (fun k => ok k ∧ k < w.heap.size) W ks' ov' news)
    (hown : W'.ownsRow (w.heap.size + 1) 45 6 v' (0 + m) ([] ++ news)) (hgrow : W.grownBy W' (Value.ownBlock (.slice none 0 0))) : St w ok W' v' m ks' ov' news := by
  have := h.app hr hown hgrow
  simpa using this
theorem St.begin {w W : World} {ok : Nat → Prop} {o : Obj} (h : Below (w.alloc o).heap.size (w.alloc o) W) : St w ok W (.slice none 0 0) 0 [] [] [] :=
  ⟨((Below.refl _ _).alloc (Nat.le_refl _) _).trans (h.mono (by simp)), by have := h.size; simpa using this, World.ownsRow_nil _ _ _ _, by simp [RowO]⟩
theorem one_row {ok : Nat → Prop} {w W : World} {key : ByteArray} {g : GV} {L O : Value} (h : LstV (fun k => ok k ∧ k < w.heap.size) w L g.items ∧ ObjV (fun k => ok k ∧ k < w.heap.size) w O g.keys g.vals) (hb : Below w.heap.size w W) :
    RowO (fun k => ok k ∧ k < w.heap.size) W [key] [g] (.string key :: chunk g L O) :=
  ⟨L, O, [], by simp, h.1.keep (From.of_below hb) (fun _ h _ => h), h.2.keep (From.of_below hb) (fun _ h _ => h), rfl⟩

/-- So many of the fields of a slice from some place on, as cells. -/
def Part (ok : Nat → Prop) (w : World) (A : Option Addr) (ks : List ByteArray) (ov : List GV) (a m : Nat) (xs : List Value) : Prop :=
  RowO (fun k => ok k ∧ k < w.heap.size) w ((ks.drop a).take m) ((ov.drop a).take m) xs ∧ xs.length = m * 6 ∧ (∀ u ∈ xs, u.oneCell' = true) ∧
  ∀ b o, A = some ⟨b, o, none⟩ → b < w.heap.size ∧ ∀ (j : Nat) (u : Value), xs[j]? = some u → w.cell? ⟨b, o + a * 6 + j, none⟩ = some u
theorem obj_part {ok : Nat → Prop} {w : World} {A : Option Addr} {n c : Nat} {ks : List ByteArray} {ov : List GV} (hO : ObjV ok w (.slice A n c) ks ov) (a m : Nat) (h : a + m ≤ ov.length) : ∃ xs, Part ok w A ks ov a m xs := by
  have hl := hO.1
  rcases hO.2 with ⟨rfl, he⟩ | ⟨b, o, c', he, _, _, hK, hks, hE⟩
  · cases he
    have hks : ks = [] := List.eq_nil_of_length_eq_zero (by rw [hl]; rfl)
    subst hks
    simp at h
    refine ⟨[], ?_, by simp [h.2], (fun u hu => by cases hu), fun b o e => by cases e⟩
    simp [RowO]
  · cases he
    have k1 : KeysAt w b (o + a * 6) ((ks.drop a).take m) := KeysAt.of fun i k hi => by
      rw [List.getElem?_take] at hi
      split at hi
      · rw [List.getElem?_drop] at hi
        have := hks.get hi
        rwa [show o + a * 6 + i * 6 = o + (a + i) * 6 by omega]
      · cases hi
    have e1 : GV.els ok w b 6 (o + a * 6 + 1) ((ov.drop a).take m) := GV.els_of fun i g hi => by
      rw [List.getElem?_take] at hi
      split at hi
      · rw [List.getElem?_drop] at hi
        have := GV.els_get hE hi
        rwa [show o + a * 6 + 1 + i * 6 = o + 1 + (a + i) * 6 by omega]
      · cases hi
    obtain ⟨xs, hr, hlen, hc, h1⟩ := els_rowO (by simp; omega) k1 e1
    refine ⟨xs, hr.keep (From.refl _ _) (fun k hk hlt => ⟨hk, hlt⟩), by rw [hlen]; simp; omega, h1, fun b' o' e => ?_⟩
    cases e
    exact ⟨hK.lt, hc⟩

theorem Part.put {ok : Nat → Prop} {w W : World} {A : Option Addr} {ks : List ByteArray} {ov : List GV} {a m : Nat} {xs : List Value} (h : Part ok w A ks ov a m xs) (hb : Below w.heap.size w W) :
    RowO (fun k => ok k ∧ k < w.heap.size) W ((ks.drop a).take m) ((ov.drop a).take m) xs := h.1.keep (From.of_below hb) (fun _ h _ => h)
theorem Part.cells {ok : Nat → Prop} {w W : World} {A : Option Addr} {ks : List ByteArray} {ov : List GV} {a m : Nat} {xs : List Value} (h : Part ok w A ks ov a m xs) (hb : Below w.heap.size w W) {b o : Nat} (hA : A = some ⟨b, o, none⟩) {b' o' : Nat} (hb' : b' = b) (ho : m = 0 ∨ o' = o + a * 6) :
    ∀ (ad : Addr), some (⟨b', o', none⟩ : Addr) = some ad → ∀ (j : Nat) (u : Value), xs[j]? = some u → W.cell? (ad.add j) = some u := fun ad e j u hj => by
  cases e
  subst hb'
  obtain ⟨hlt, hc⟩ := h.2.2.2 _ _ hA
  rcases ho with h0 | rfl
  · have : xs = [] := List.eq_nil_of_length_eq_zero (by rw [h.2.1, h0])
    subst this
    simp at hj
  · have e2 : (⟨b', o + a * 6, none⟩ : Addr).add j = ⟨b', o + a * 6 + j, none⟩ := by unfold Addr.add; split <;> simp_all
    rw [e2]
    exact (hb.cell (p := ⟨b', o + a * 6 + j, none⟩) hlt).trans (hc j u hj)

set_option maxRecDepth 100000 in
set_option maxHeartbeats 8000000 in
theorem with_any (ok : Nat → Prop) (O : Value) (ks : List ByteArray) (ov : List GV) (key : ByteArray) (g : GV) (x : Value) (w : World) (hO : ObjV ok w O ks ov) (hx : g.val ok w x) (hn : ov.length ≤ 1000000000) :
    Calls Tryd.prog 46 #[O, .string key, x] w fun e w' => ∃ v', e = .returned v' ∧ ObjV (fun k => ok k ∨ w.heap.size ≤ k) w' v' (insK key ks) (insV key ks ov g) ∧ Below w.heap.size w w' := by
  obtain ⟨L, O1, rfl, hL, hO1⟩ := hx
  obtain ⟨BL, dL, rfl⟩ := lst_form hL
  obtain ⟨BO, dO, rfl⟩ := obj_form hO1
  have hkl := hO.1
  have hpl := place_le key ks
  have hql := insN_le key ks
  obtain ⟨A, c, rfl, hc1, hc2, hf⟩ := hO.form
  unfold maxLen at hc2
  have hfield : ∀ W, Below w.heap.size w W → Calls Tryd.prog 58 #[.agg #[.int .u8 0, .int .i64 0, .string ⟨#[]⟩, .slice none 0 0, .slice A ov.length c], .string key] W fun e w' => e = .returned (.tuple #[.int .i64 (place key ks), .bool (there key ks)]) ∧ Below W.heap.size W w' := fun W hW =>
    ref_Field (fun k => ok k ∧ k < w.heap.size) _ (.mk 0 0 ⟨#[]⟩ [] ks ov) key W ⟨_, _, rfl, .inl ⟨rfl, rfl⟩, hO.keep (From.of_below hW) (fun k hk hlt => ⟨hk, hlt⟩)⟩
  have hAf : A = none ∨ ∃ b o, A = some ⟨b, o, none⟩ := by
    rcases hO.2 with ⟨rfl, e⟩ | ⟨b, o, _, e, _⟩
    · cases e; exact .inl rfl
    · cases e; exact .inr ⟨b, o, rfl⟩
  have hA0 : A = none → ov.length = 0 ∧ c = 0 := fun e => by
    rcases hO.2 with ⟨rfl, h2⟩ | ⟨b, o, _, h, _⟩
    · cases h2; exact ⟨rfl, rfl⟩
    · rw [e] at h; cases h
  obtain ⟨xs1, hP1⟩ := obj_part hO 0 (place key ks) (by omega)
  obtain ⟨xs3, hP3⟩ := obj_part hO (insN key ks) (ov.length - insN key ks) (by omega)
  have hLk : LstV (fun k => ok k ∧ k < w.heap.size) w (.slice BL g.items.length dL) g.items := hL.keep (From.refl _ _) fun k hk hlt => ⟨hk, hlt⟩
  have hOk : ObjV (fun k => ok k ∧ k < w.heap.size) w (.slice BO g.vals.length dO) g.keys g.vals := hO1.keep (From.refl _ _) fun k hk hlt => ⟨hk, hlt⟩
  have hfin : ∀ W v, St w ok W v (place key ks + 1 + (ov.length - insN key ks)) (((ks.drop 0).take (place key ks) ++ [key]) ++ (ks.drop (insN key ks)).take (ov.length - insN key ks)) (((ov.drop 0).take (place key ks) ++ [g]) ++ (ov.drop (insN key ks)).take (ov.length - insN key ks)) ((xs1 ++ (.string key :: chunk g (.slice BL g.items.length dL) (.slice BO g.vals.length dO))) ++ xs3) →
      ∃ v', Ending.returned v = .returned v' ∧ ObjV (fun k => ok k ∨ w.heap.size ≤ k) W v' (insK key ks) (insV key ks ov g) ∧ Below w.heap.size w W := fun W v h => by
    have e1 : ((ks.drop 0).take (place key ks) ++ [key]) ++ (ks.drop (insN key ks)).take (ov.length - insN key ks) = insK key ks := by
      unfold insK
      rw [List.take_of_length_le (l := ks.drop (insN key ks)) (by simp; omega)]
      simp
    have e2 : ((ov.drop 0).take (place key ks) ++ [g]) ++ (ov.drop (insN key ks)).take (ov.length - insN key ks) = insV key ks ov g := by
      unfold insV
      rw [List.take_of_length_le (l := ov.drop (insN key ks)) (by simp)]
      simp
    have e3 : place key ks + 1 + (ov.length - insN key ks) = (insV key ks ov g).length := by unfold insV; simp; omega
    rw [e1, e2, e3] at h
    exact ⟨v, rfl, h.done, h.below⟩
  have hq : insN key ks = place key ks + if there key ks = true then 1 else 0 := rfl
  obtain ⟨i1, hi1, hy0, hy1, hy2⟩ := info_parts infoField
  have HI1 := Lib.hid (And.intro hi1 (And.intro hy0 (And.intro hy1 hy2)))
  have HF := Lib.hid hfield
  have HFIN := Lib.hid hfin
  have HV := Lib.hid (And.intro hLk hOk)
  have HP := Lib.hid (And.intro hP1 hP3)
  have HA0 := Lib.hid hA0
  clear hi1 hy0 hy1 hy2 hfield hfin hLk hOk hP1 hP3 hO hL hO1 hf hA0
  generalize place key ks = p at *
  generalize there key ks = t at *
  generalize insN key ks = q at *
  generalize ov.length = n at *
  have HKL := Lib.hid hkl
  clear hkl
  have hpl' : p ≤ n := by have := HKL.out; omega
  have hql' : q ≤ n := by have := HKL.out; omega
  clear hpl hql
  have hcases : (A = none ∧ Hid (n = 0 ∧ c = 0)) ∨ ∃ b o, A = some ⟨b, o, none⟩ := by
    rcases hAf with h | h
    · exact .inl ⟨h, Lib.hid (HA0.out h)⟩
    · exact .inr h
  clear hAf
  have hb1 : p + 1 + (n - q) ≤ 1000000001 := by cases t <;> simp at hq <;> omega
  have B1 := Lib.hid (show (0 + p ≤ maxLen ∧ (0 + p) * 96 ≤ 140737488355328) ∧ (p + 1 ≤ maxLen ∧ (p + 1) * 96 ≤ 140737488355328) ∧ (p + 1 + (n - q) ≤ maxLen ∧ (p + 1 + (n - q)) * 96 ≤ 140737488355328) by unfold maxLen; omega)
  clear hb1
  rcases hcases with ⟨rfl, hz⟩ | ⟨b, o, rfl⟩
  · obtain ⟨rfl, rfl⟩ := hz.out
    obtain rfl : p = 0 := by omega
    obtain rfl : q = 0 := by omega
    cases t with
    | true => simp at hq
    | false =>
      clear hq hz
      go_enter Tryd.func46, Tryd.ntmps46
      go_wp2_with (first | (go_at_call 58; refine (HF.out _ ((Below.refl _ _).alloc (Nat.le_refl _) _)).mono ?_; rintro e W1 ⟨rfl, hb1⟩; have HX := Lib.hid ((Whole.new w 31 #[.int .u8 g.kind, .int .i64 g.num, .string g.str, .slice BL g.items.length dL, .slice BO g.vals.length dO]).below hb1 (by simp)); have hst : St w ok W1 (.slice none 0 0) 0 [] [] [] := St.begin hb1; have HST := Lib.hid hst; clear hb1 hst) | (at_builtin; refine wpList_append_from _ rfl (.tmp 17) (.tmp 20) 29 rfl (w.heap.size + 1) 45 i1 _ 6 96 Tryd.underlying29 HI1.out.1 HI1.out.2.1 HI1.out.2.2.1 HI1.out.2.2.2 rfl (by decide) (.slice none 0 0) 0 [] rfl HST.out.own none 0 0 xs1 rfl (fun _ => rfl) HP.out.1.2.1 (fun _ e => by cases e) HP.out.1.2.2.1 B1.out.1.1 B1.out.1.2 HST.out.size ?_; intro v3 W3 hown3 hgrow3 hat3; have HST3 := Lib.hid (HST.out.first (HP.out.1.put HST.out.below) hown3 hgrow3); obtain ⟨A3, c3, rfl⟩ := own_form HST3.out.own; have HX3 := Lib.hid (HX.out.grown hgrow3 (by simp [Value.ownBlock])); obtain ⟨x0, x1, x2, x3, x4, _⟩ := HX3.out.five; clear hown3 hgrow3 hat3) | (at_builtin; refine wpList_append_own_at _ rfl (.tmp 22) (.tmp 26) 29 rfl (w.heap.size + 1) 45 i1 _ 6 96 Tryd.underlying29 HI1.out.1 HI1.out.2.1 HI1.out.2.2.1 HI1.out.2.2.2 rfl (by decide) (.slice A3 0 c3) 0 xs1 rfl (HST3.out.step ((Below.refl _ W3).alloc (Nat.le_refl _) _)).own ⟨W3.heap.size, 0, none⟩ 1 1 (.string key :: chunk g (.slice BL g.items.length dL) (.slice BO g.vals.length dO)) rfl rfl (row_cells' _ _ rfl _ _) (by simp [chunk, Value.oneCell']) B1.out.2.1.1 B1.out.2.1.2 (HST3.out.step ((Below.refl _ W3).alloc (Nat.le_refl _) _)).size ?_; intro v5 W5 hown5 hgrow5 _ hat5; obtain ⟨A5, c5, rfl⟩ := own_form hown5; have HST5 := Lib.hid ((HST3.out.step ((Below.refl _ W3).alloc (Nat.le_refl _) _)).app (one_row HV.out (HST3.out.step ((Below.refl _ W3).alloc (Nat.le_refl _) _)).below) hown5 hgrow5); clear hown5 hgrow5 hat5) | (at_builtin; refine wpList_append_from _ rfl (.tmp 31) (.tmp 34) 29 rfl (w.heap.size + 1) 45 i1 _ 6 96 Tryd.underlying29 HI1.out.1 HI1.out.2.1 HI1.out.2.2.1 HI1.out.2.2.2 rfl (by decide) (.slice A5 (0 + 1) c5) (0 + 1) _ rfl HST5.out.own none 0 0 xs3 rfl (fun _ => rfl) HP.out.2.2.1 (fun _ e => by cases e) HP.out.2.2.2.1 B1.out.2.2.1 B1.out.2.2.2 HST5.out.size ?_; intro v7 W7 hown7 hgrow7 hat7; obtain ⟨A7, c7, rfl⟩ := own_form hown7; have HST7 := Lib.hid (HST5.out.app (HP.out.2.put HST5.out.below) hown7 hgrow7); clear hown7 hgrow7 hat7))
      go_ret
      have h7 := HFIN.out _ _ HST7.out
      first | exact h7 | (rw [Nat.add_sub_cancel' (by omega)] at h7; exact h7) | exact (by have h8 := h7; simpa using h8)
  · have hpc : p ≤ c := by omega
    have hqc : q ≤ c := by omega
    cases t with
    | true =>
      obtain rfl : q = p + 1 := by simpa using hq
      clear hq
      by_cases hcq : c = p + 1
      · subst hcq
        have e0 : n - (p + 1) = 0 := by omega
        rw [e0] at HP HFIN B1
        go_enter Tryd.func46, Tryd.ntmps46
        go_wp2_with (first | (go_at_call 58; refine (HF.out _ ((Below.refl _ _).alloc (Nat.le_refl _) _)).mono ?_; rintro e W1 ⟨rfl, hb1⟩; have HX := Lib.hid ((Whole.new w 31 #[.int .u8 g.kind, .int .i64 g.num, .string g.str, .slice BL g.items.length dL, .slice BO g.vals.length dO]).below hb1 (by simp)); have hst : St w ok W1 (.slice none 0 0) 0 [] [] [] := St.begin hb1; have HST := Lib.hid hst; clear hb1 hst) | (at_builtin; refine wpList_append_from _ rfl (.tmp 17) (.tmp 20) 29 rfl (w.heap.size + 1) 45 i1 _ 6 96 Tryd.underlying29 HI1.out.1 HI1.out.2.1 HI1.out.2.2.1 HI1.out.2.2.2 rfl (by decide) (.slice none 0 0) 0 [] rfl HST.out.own (some ⟨b, o, none⟩) p (p + 1) xs1 rfl (fun e => by cases e) HP.out.1.2.1 (HP.out.1.cells HST.out.below rfl rfl (.inr (by omega))) HP.out.1.2.2.1 B1.out.1.1 B1.out.1.2 HST.out.size ?_; intro v3 W3 hown3 hgrow3 hat3; have HST3 := Lib.hid (HST.out.first (HP.out.1.put HST.out.below) hown3 hgrow3); obtain ⟨A3, c3, rfl⟩ := own_form HST3.out.own; have HX3 := Lib.hid (HX.out.grown hgrow3 (by simp [Value.ownBlock])); obtain ⟨x0, x1, x2, x3, x4, _⟩ := HX3.out.five; clear hown3 hgrow3 hat3) | (at_builtin; refine wpList_append_own_at _ rfl (.tmp 22) (.tmp 26) 29 rfl (w.heap.size + 1) 45 i1 _ 6 96 Tryd.underlying29 HI1.out.1 HI1.out.2.1 HI1.out.2.2.1 HI1.out.2.2.2 rfl (by decide) (.slice A3 p c3) p xs1 rfl (HST3.out.step ((Below.refl _ W3).alloc (Nat.le_refl _) _)).own ⟨W3.heap.size, 0, none⟩ 1 1 (.string key :: chunk g (.slice BL g.items.length dL) (.slice BO g.vals.length dO)) rfl rfl (row_cells' _ _ rfl _ _) (by simp [chunk, Value.oneCell']) B1.out.2.1.1 B1.out.2.1.2 (HST3.out.step ((Below.refl _ W3).alloc (Nat.le_refl _) _)).size ?_; intro v5 W5 hown5 hgrow5 _ hat5; obtain ⟨A5, c5, rfl⟩ := own_form hown5; have HST5 := Lib.hid ((HST3.out.step ((Below.refl _ W3).alloc (Nat.le_refl _) _)).app (one_row HV.out (HST3.out.step ((Below.refl _ W3).alloc (Nat.le_refl _) _)).below) hown5 hgrow5); clear hown5 hgrow5 hat5) | (at_builtin; refine wpList_append_from _ rfl (.tmp 31) (.tmp 34) 29 rfl (w.heap.size + 1) 45 i1 _ 6 96 Tryd.underlying29 HI1.out.1 HI1.out.2.1 HI1.out.2.2.1 HI1.out.2.2.2 rfl (by decide) (.slice A5 (p + 1) c5) (p + 1) _ rfl HST5.out.own (some ⟨b, o, none⟩) 0 0 xs3 rfl (fun e => by cases e) HP.out.2.2.1 (HP.out.2.cells HST5.out.below rfl rfl (.inl rfl)) HP.out.2.2.2.1 B1.out.2.2.1 B1.out.2.2.2 HST5.out.size ?_; intro v7 W7 hown7 hgrow7 hat7; obtain ⟨A7, c7, rfl⟩ := own_form hown7; have HST7 := Lib.hid (HST5.out.app (HP.out.2.put HST5.out.below) hown7 hgrow7); clear hown7 hgrow7 hat7))
        go_ret
        have h7 := HFIN.out _ _ HST7.out
        first | exact h7 | (rw [Nat.add_sub_cancel' (by omega)] at h7; exact h7) | exact (by have h8 := h7; simpa using h8)
      · go_enter Tryd.func46, Tryd.ntmps46
        go_wp2_with (first | (go_at_call 58; refine (HF.out _ ((Below.refl _ _).alloc (Nat.le_refl _) _)).mono ?_; rintro e W1 ⟨rfl, hb1⟩; have HX := Lib.hid ((Whole.new w 31 #[.int .u8 g.kind, .int .i64 g.num, .string g.str, .slice BL g.items.length dL, .slice BO g.vals.length dO]).below hb1 (by simp)); have hst : St w ok W1 (.slice none 0 0) 0 [] [] [] := St.begin hb1; have HST := Lib.hid hst; clear hb1 hst) | (at_builtin; refine wpList_append_from _ rfl (.tmp 17) (.tmp 20) 29 rfl (w.heap.size + 1) 45 i1 _ 6 96 Tryd.underlying29 HI1.out.1 HI1.out.2.1 HI1.out.2.2.1 HI1.out.2.2.2 rfl (by decide) (.slice none 0 0) 0 [] rfl HST.out.own (some ⟨b, o, none⟩) p c xs1 rfl (fun e => by cases e) HP.out.1.2.1 (HP.out.1.cells HST.out.below rfl rfl (.inr (by omega))) HP.out.1.2.2.1 B1.out.1.1 B1.out.1.2 HST.out.size ?_; intro v3 W3 hown3 hgrow3 hat3; have HST3 := Lib.hid (HST.out.first (HP.out.1.put HST.out.below) hown3 hgrow3); obtain ⟨A3, c3, rfl⟩ := own_form HST3.out.own; have HX3 := Lib.hid (HX.out.grown hgrow3 (by simp [Value.ownBlock])); obtain ⟨x0, x1, x2, x3, x4, _⟩ := HX3.out.five; clear hown3 hgrow3 hat3) | (at_builtin; refine wpList_append_own_at _ rfl (.tmp 22) (.tmp 26) 29 rfl (w.heap.size + 1) 45 i1 _ 6 96 Tryd.underlying29 HI1.out.1 HI1.out.2.1 HI1.out.2.2.1 HI1.out.2.2.2 rfl (by decide) (.slice A3 p c3) p xs1 rfl (HST3.out.step ((Below.refl _ W3).alloc (Nat.le_refl _) _)).own ⟨W3.heap.size, 0, none⟩ 1 1 (.string key :: chunk g (.slice BL g.items.length dL) (.slice BO g.vals.length dO)) rfl rfl (row_cells' _ _ rfl _ _) (by simp [chunk, Value.oneCell']) B1.out.2.1.1 B1.out.2.1.2 (HST3.out.step ((Below.refl _ W3).alloc (Nat.le_refl _) _)).size ?_; intro v5 W5 hown5 hgrow5 _ hat5; obtain ⟨A5, c5, rfl⟩ := own_form hown5; have HST5 := Lib.hid ((HST3.out.step ((Below.refl _ W3).alloc (Nat.le_refl _) _)).app (one_row HV.out (HST3.out.step ((Below.refl _ W3).alloc (Nat.le_refl _) _)).below) hown5 hgrow5); clear hown5 hgrow5 hat5) | (at_builtin; refine wpList_append_from _ rfl (.tmp 31) (.tmp 34) 29 rfl (w.heap.size + 1) 45 i1 _ 6 96 Tryd.underlying29 HI1.out.1 HI1.out.2.1 HI1.out.2.2.1 HI1.out.2.2.2 rfl (by decide) (.slice A5 (p + 1) c5) (p + 1) _ rfl HST5.out.own (some ⟨b, o + (p + 1) * 6, none⟩) (n - (p + 1)) (c - (p + 1)) xs3 rfl (fun e => by cases e) HP.out.2.2.1 (HP.out.2.cells HST5.out.below rfl rfl (.inr rfl)) HP.out.2.2.2.1 B1.out.2.2.1 B1.out.2.2.2 HST5.out.size ?_; intro v7 W7 hown7 hgrow7 hat7; obtain ⟨A7, c7, rfl⟩ := own_form hown7; have HST7 := Lib.hid (HST5.out.app (HP.out.2.put HST5.out.below) hown7 hgrow7); clear hown7 hgrow7 hat7))
        go_ret
        have h7 := HFIN.out _ _ HST7.out
        first | exact h7 | (rw [Nat.add_sub_cancel' (by omega)] at h7; exact h7) | exact (by have h8 := h7; simpa using h8)
    | false =>
      obtain rfl : q = p := by simpa using hq
      clear hq
      by_cases hcq : c = q
      · subst hcq
        have e0 : n - c = 0 := by omega
        rw [e0] at HP HFIN B1
        go_enter Tryd.func46, Tryd.ntmps46
        go_wp2_with (first | (go_at_call 58; refine (HF.out _ ((Below.refl _ _).alloc (Nat.le_refl _) _)).mono ?_; rintro e W1 ⟨rfl, hb1⟩; have HX := Lib.hid ((Whole.new w 31 #[.int .u8 g.kind, .int .i64 g.num, .string g.str, .slice BL g.items.length dL, .slice BO g.vals.length dO]).below hb1 (by simp)); have hst : St w ok W1 (.slice none 0 0) 0 [] [] [] := St.begin hb1; have HST := Lib.hid hst; clear hb1 hst) | (at_builtin; refine wpList_append_from _ rfl (.tmp 17) (.tmp 20) 29 rfl (w.heap.size + 1) 45 i1 _ 6 96 Tryd.underlying29 HI1.out.1 HI1.out.2.1 HI1.out.2.2.1 HI1.out.2.2.2 rfl (by decide) (.slice none 0 0) 0 [] rfl HST.out.own (some ⟨b, o, none⟩) c c xs1 rfl (fun e => by cases e) HP.out.1.2.1 (HP.out.1.cells HST.out.below rfl rfl (.inr (by omega))) HP.out.1.2.2.1 B1.out.1.1 B1.out.1.2 HST.out.size ?_; intro v3 W3 hown3 hgrow3 hat3; have HST3 := Lib.hid (HST.out.first (HP.out.1.put HST.out.below) hown3 hgrow3); obtain ⟨A3, c3, rfl⟩ := own_form HST3.out.own; have HX3 := Lib.hid (HX.out.grown hgrow3 (by simp [Value.ownBlock])); obtain ⟨x0, x1, x2, x3, x4, _⟩ := HX3.out.five; clear hown3 hgrow3 hat3) | (at_builtin; refine wpList_append_own_at _ rfl (.tmp 22) (.tmp 26) 29 rfl (w.heap.size + 1) 45 i1 _ 6 96 Tryd.underlying29 HI1.out.1 HI1.out.2.1 HI1.out.2.2.1 HI1.out.2.2.2 rfl (by decide) (.slice A3 c c3) c xs1 rfl (HST3.out.step ((Below.refl _ W3).alloc (Nat.le_refl _) _)).own ⟨W3.heap.size, 0, none⟩ 1 1 (.string key :: chunk g (.slice BL g.items.length dL) (.slice BO g.vals.length dO)) rfl rfl (row_cells' _ _ rfl _ _) (by simp [chunk, Value.oneCell']) B1.out.2.1.1 B1.out.2.1.2 (HST3.out.step ((Below.refl _ W3).alloc (Nat.le_refl _) _)).size ?_; intro v5 W5 hown5 hgrow5 _ hat5; obtain ⟨A5, c5, rfl⟩ := own_form hown5; have HST5 := Lib.hid ((HST3.out.step ((Below.refl _ W3).alloc (Nat.le_refl _) _)).app (one_row HV.out (HST3.out.step ((Below.refl _ W3).alloc (Nat.le_refl _) _)).below) hown5 hgrow5); clear hown5 hgrow5 hat5) | (at_builtin; refine wpList_append_from _ rfl (.tmp 31) (.tmp 34) 29 rfl (w.heap.size + 1) 45 i1 _ 6 96 Tryd.underlying29 HI1.out.1 HI1.out.2.1 HI1.out.2.2.1 HI1.out.2.2.2 rfl (by decide) (.slice A5 (c + 1) c5) (c + 1) _ rfl HST5.out.own (some ⟨b, o, none⟩) 0 0 xs3 rfl (fun e => by cases e) HP.out.2.2.1 (HP.out.2.cells HST5.out.below rfl rfl (.inl rfl)) HP.out.2.2.2.1 B1.out.2.2.1 B1.out.2.2.2 HST5.out.size ?_; intro v7 W7 hown7 hgrow7 hat7; obtain ⟨A7, c7, rfl⟩ := own_form hown7; have HST7 := Lib.hid (HST5.out.app (HP.out.2.put HST5.out.below) hown7 hgrow7); clear hown7 hgrow7 hat7))
        go_ret
        have h7 := HFIN.out _ _ HST7.out
        first | exact h7 | (rw [Nat.add_sub_cancel' (by omega)] at h7; exact h7) | exact (by have h8 := h7; simpa using h8)
      · go_enter Tryd.func46, Tryd.ntmps46
        go_wp2_with (first | (go_at_call 58; refine (HF.out _ ((Below.refl _ _).alloc (Nat.le_refl _) _)).mono ?_; rintro e W1 ⟨rfl, hb1⟩; have HX := Lib.hid ((Whole.new w 31 #[.int .u8 g.kind, .int .i64 g.num, .string g.str, .slice BL g.items.length dL, .slice BO g.vals.length dO]).below hb1 (by simp)); have hst : St w ok W1 (.slice none 0 0) 0 [] [] [] := St.begin hb1; have HST := Lib.hid hst; clear hb1 hst) | (at_builtin; refine wpList_append_from _ rfl (.tmp 17) (.tmp 20) 29 rfl (w.heap.size + 1) 45 i1 _ 6 96 Tryd.underlying29 HI1.out.1 HI1.out.2.1 HI1.out.2.2.1 HI1.out.2.2.2 rfl (by decide) (.slice none 0 0) 0 [] rfl HST.out.own (some ⟨b, o, none⟩) q c xs1 rfl (fun e => by cases e) HP.out.1.2.1 (HP.out.1.cells HST.out.below rfl rfl (.inr (by omega))) HP.out.1.2.2.1 B1.out.1.1 B1.out.1.2 HST.out.size ?_; intro v3 W3 hown3 hgrow3 hat3; have HST3 := Lib.hid (HST.out.first (HP.out.1.put HST.out.below) hown3 hgrow3); obtain ⟨A3, c3, rfl⟩ := own_form HST3.out.own; have HX3 := Lib.hid (HX.out.grown hgrow3 (by simp [Value.ownBlock])); obtain ⟨x0, x1, x2, x3, x4, _⟩ := HX3.out.five; clear hown3 hgrow3 hat3) | (at_builtin; refine wpList_append_own_at _ rfl (.tmp 22) (.tmp 26) 29 rfl (w.heap.size + 1) 45 i1 _ 6 96 Tryd.underlying29 HI1.out.1 HI1.out.2.1 HI1.out.2.2.1 HI1.out.2.2.2 rfl (by decide) (.slice A3 q c3) q xs1 rfl (HST3.out.step ((Below.refl _ W3).alloc (Nat.le_refl _) _)).own ⟨W3.heap.size, 0, none⟩ 1 1 (.string key :: chunk g (.slice BL g.items.length dL) (.slice BO g.vals.length dO)) rfl rfl (row_cells' _ _ rfl _ _) (by simp [chunk, Value.oneCell']) B1.out.2.1.1 B1.out.2.1.2 (HST3.out.step ((Below.refl _ W3).alloc (Nat.le_refl _) _)).size ?_; intro v5 W5 hown5 hgrow5 _ hat5; obtain ⟨A5, c5, rfl⟩ := own_form hown5; have HST5 := Lib.hid ((HST3.out.step ((Below.refl _ W3).alloc (Nat.le_refl _) _)).app (one_row HV.out (HST3.out.step ((Below.refl _ W3).alloc (Nat.le_refl _) _)).below) hown5 hgrow5); clear hown5 hgrow5 hat5) | (at_builtin; refine wpList_append_from _ rfl (.tmp 31) (.tmp 34) 29 rfl (w.heap.size + 1) 45 i1 _ 6 96 Tryd.underlying29 HI1.out.1 HI1.out.2.1 HI1.out.2.2.1 HI1.out.2.2.2 rfl (by decide) (.slice A5 (q + 1) c5) (q + 1) _ rfl HST5.out.own (some ⟨b, o + q * 6, none⟩) (n - q) (c - q) xs3 rfl (fun e => by cases e) HP.out.2.2.1 (HP.out.2.cells HST5.out.below rfl rfl (.inr rfl)) HP.out.2.2.2.1 B1.out.2.2.1 B1.out.2.2.2 HST5.out.size ?_; intro v7 W7 hown7 hgrow7 hat7; obtain ⟨A7, c7, rfl⟩ := own_form hown7; have HST7 := Lib.hid (HST5.out.app (HP.out.2.put HST5.out.below) hown7 hgrow7); clear hown7 hgrow7 hat7))
        go_ret
        have h7 := HFIN.out _ _ HST7.out
        first | exact h7 | (rw [Nat.add_sub_cancel' (by omega)] at h7; exact h7) | exact (by have h8 := h7; simpa using h8)
end Go.Proofs.YtmmjkhkcffgeiaaDoor
