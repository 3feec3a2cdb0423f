/- What json's reader reads between two brackets, as plain mathematics: items of any kind, with commas between. -/
import Derived.Test.YtmmjkhkcffgeiaaDoorJVal
import Derived.Test.YtmmjkhkcffgeiaaDoorWValue
namespace Go.Proofs.YtmmjkhkcffgeiaaDoor
open Go Go.RowKit

/-- Items: what is written of one, which ones may stand, and what may stand behind one. -/
structure Itm (α : Type) where
  it : α → List UInt8
  good : α → Prop
  fol : α → List UInt8 → Prop
  shut : UInt8
  folShut : ∀ x r, fol x (shut :: r)
  folComma : ∀ x r, fol x (44 :: r)
  one : ∀ x y r r', good x → good y → fol x r → fol y r' → it x ++ r = it y ++ r' → x = y ∧ r = r'
  noShut : ∀ x r t, good x → it x ++ r ≠ shut :: t
  comma : shut ≠ 44

namespace Itm
variable {α : Type} (I : Itm α)
/-- The items' texts, with commas between; ahead of the first, too, unless it is the first of all. -/
def row : Bool → List α → List UInt8
  | _, [] => []
  | b, x :: l => (if b then [] else [44]) ++ (I.it x ++ row false l)
theorem row_len : ∀ (b : Bool) (l : List α), l.length ≤ (I.row b l).length + (if b then 1 else 0)
  | _, [] => by simp
  | b, x :: l => by
    have h := row_len false l
    simp only [row, List.length_cons, List.length_append]
    cases b <;> simp at h ⊢ <;> omega
theorem row_snoc : ∀ (b : Bool) (l : List α) (x : α), I.row b (l ++ [x]) = I.row b l ++ ((if b && l.isEmpty then [] else [44]) ++ I.it x)
  | b, [], x => by cases b <;> simp [row]
  | b, y :: l, x => by
    rw [List.cons_append]
    simp only [row]
    rw [row_snoc false l x]
    simp [List.append_assoc]
theorem fol_row (x : α) (l : List α) (r : List UInt8) : I.fol x (I.row false l ++ I.shut :: r) := by
  cases l with
  | nil => exact I.folShut x r
  | cons y l => exact I.folComma x _
/-- A row stands at the head of b: the items l, then the bracket. -/
def Row (b : List UInt8) (l : List α) (r : List UInt8) : Prop := (∀ x ∈ l, I.good x) ∧ b = I.row true l ++ I.shut :: r
/-- An item stands at the head. -/
def At (b : List UInt8) (x : α) (r : List UInt8) : Prop := I.good x ∧ b = I.it x ++ r ∧ I.fol x r
/-- Behind the items that have been read there stand others of the row. -/
theorem split : ∀ (acc : List α) (x : α) (l : List α) (b : Bool) (t r : List UInt8), (∀ y ∈ acc, I.good y) → I.good x → (∀ y ∈ l, I.good y) → I.fol x t → I.row b (acc ++ [x]) ++ t = I.row b l ++ I.shut :: r → ∃ l', l = acc ++ x :: l' ∧ t = I.row false l' ++ I.shut :: r
  | acc, x, [], b, t, r, ha, hx, _, _, e => by
    exfalso
    have key : ∀ (y : α) (u : List UInt8), I.good y → (if b then [] else [44]) ++ (I.it y ++ u) ≠ I.shut :: r := fun y u hy e => by
      cases b with
      | true => exact I.noShut y u r hy (by simpa using e)
      | false => simp at e; exact I.comma e.1.symm
    cases acc with
    | nil =>
      simp only [List.nil_append, row, List.append_nil, List.append_assoc] at e
      exact key x t hx e
    | cons y acc =>
      simp only [List.cons_append, row, List.nil_append, List.append_assoc] at e
      exact key y _ (ha y (by simp)) e
  | [], x, y :: l, b, t, r, _, hx, hl, hf, e => by
    simp only [List.nil_append, row, List.append_nil, List.append_assoc] at e
    obtain ⟨rfl, rfl⟩ := I.one _ _ _ _ hx (hl y (by simp)) hf (I.fol_row y l r) (List.append_cancel_left e)
    exact ⟨l, rfl, rfl⟩
  | z :: acc, x, y :: l, b, t, r, ha, hx, hl, hf, e => by
    simp only [List.cons_append, row, List.append_assoc] at e
    have hfz : I.fol z (I.row false (acc ++ [x]) ++ t) := by
      cases acc with
      | nil => exact I.folComma z _
      | cons w acc => exact I.folComma z _
    obtain ⟨rfl, e2⟩ := I.one _ _ _ _ (ha z (by simp)) (hl y (by simp)) hfz (I.fol_row y l r) (List.append_cancel_left e)
    obtain ⟨l', rfl, h2⟩ := split acc x l false t r (fun y hy => ha y (by simp [hy])) hx (fun y hy => hl y (by simp [hy])) hf e2
    exact ⟨l', rfl, h2⟩
theorem none_first {b : List UInt8} (h1 : ∀ t, b ≠ I.shut :: t) (h2 : ¬ ∃ x r, I.At b x r) : ¬ ∃ l r, I.Row b l r := fun ⟨l, r, hl, e⟩ => by
  cases l with
  | nil => exact h1 r e
  | cons x l =>
    simp only [row, if_true, List.nil_append, List.append_assoc] at e
    exact h2 ⟨x, _, hl x (by simp), e, I.fol_row x l r⟩
theorem none_next {b t : List UInt8} {acc : List α} {x : α} (ha : ∀ y ∈ acc, I.good y) (hx : I.good x) (hf : I.fol x t) (e : b = I.row true (acc ++ [x]) ++ t) (h1 : ∀ u, t ≠ I.shut :: u) (h2 : ∀ u, t ≠ 44 :: u) : ¬ ∃ l r, I.Row b l r := fun ⟨l, r, hl, e2⟩ => by
  obtain ⟨l', _, ht⟩ := I.split acc x l true t r ha hx hl hf (e.symm.trans e2)
  cases l' with
  | nil => exact h1 r ht
  | cons y l' => exact h2 _ ht
theorem none_item {b t : List UInt8} {acc : List α} {x : α} (ha : ∀ y ∈ acc, I.good y) (hx : I.good x) (hf : I.fol x (44 :: t)) (e : b = I.row true (acc ++ [x]) ++ 44 :: t) (h : ¬ ∃ y r, I.At t y r) : ¬ ∃ l r, I.Row b l r := fun ⟨l, r, hl, e2⟩ => by
  obtain ⟨l', hl', ht⟩ := I.split acc x l true _ r ha hx hl hf (e.symm.trans e2)
  cases l' with
  | nil =>
    simp only [row, List.nil_append, List.cons.injEq] at ht
    exact I.comma ht.1.symm
  | cons y l' =>
    simp only [row, List.cons_append, List.nil_append, List.append_assoc, List.cons.injEq, true_and, Bool.false_eq_true, if_false] at ht
    exact h ⟨y, _, hl y (by rw [hl']; simp), ht, I.fol_row y l' r⟩
end Itm

/-- Values as items, each at most m deep. -/
def ItmV (m : Nat) : Itm GV where
  it := GV.enc
  good := fun g => g.RS ∧ g.deep ≤ m
  fol := fun g r => g.kind = 2 → Nd r
  shut := 93
  folShut := fun _ _ _ => nd_cons (by decide)
  folComma := fun _ _ _ => nd_cons (by decide)
  one := fun x y r r' hx hy hf hf' e => enc_apart x y r r' hx.1 hy.1 hf hf' e
  noShut := fun x r t hx => enc_not hx.1 93 (by decide) r t
  comma := by decide
/-- Fields as items. -/
def ItmF (m : Nat) : Itm (ByteArray × GV) where
  it := fun p => encText p.1.data.toList ++ 58 :: p.2.enc
  good := fun p => p.2.RS ∧ p.2.deep ≤ m
  fol := fun p r => p.2.kind = 2 → Nd r
  shut := 125
  folShut := fun _ _ _ => nd_cons (by decide)
  folComma := fun _ _ _ => nd_cons (by decide)
  one := fun x y r r' hx hy hf hf' e => by
    simp only [encText, List.cons_append, List.append_assoc, List.nil_append, List.cons.injEq, true_and] at e
    obtain ⟨h1, h2⟩ := encL_apart e
    simp only [List.cons.injEq, true_and] at h2
    obtain ⟨h3, h4⟩ := enc_apart x.2 y.2 r r' hx.1 hy.1 hf hf' h2
    exact ⟨Prod.ext (ba_ext h1) h3, h4⟩
  noShut := fun x r t _ e => by simp [encText] at e
  comma := by decide
theorem row_encs (m : Nat) : ∀ (b : Bool) (l : List GV), (ItmV m).row b l = GV.encs b l
  | b, [] => by simp [Itm.row, encs_nil]
  | b, x :: l => by
    rw [encs_cons, ← row_encs m false l]
    rfl
theorem row_encFs (m : Nat) : ∀ (b : Bool) (l : List (ByteArray × GV)), (ItmF m).row b l = GV.encFs b (l.map (·.1)) (l.map (·.2))
  | b, [] => by simp [Itm.row, encFs_nil]
  | b, x :: l => by
    rw [List.map_cons, List.map_cons, encFs_cons, ← row_encFs m false l]
    simp only [Itm.row, ItmF, List.append_assoc, List.cons_append]
theorem deeps_iff : ∀ (l : List GV) (m : Nat), GV.deeps l ≤ m + 1 ↔ ∀ x ∈ l, x.deep ≤ m
  | [], m => by simp [GV.deeps]
  | x :: l, m => by
    have := deeps_iff l m
    simp only [GV.deeps, List.mem_cons, forall_eq_or_imp]
    rw [← this]
    omega
/-- A list stands where its row does. -/
theorem vat_list {m : Nat} {b : List UInt8} {l : List GV} {r : List UInt8} (h : (ItmV m).Row b l r) : VAt (m + 1) (91 :: b) (.mk 4 0 ⟨#[]⟩ l [] []) r := by
  obtain ⟨hl, e⟩ := h
  refine ⟨?_, ?_, ?_, fun h => by cases h⟩
  · simp only [GV.RS, GV.RSs, and_true]
    exact ⟨by simp [RSelf], (rss_iff l).2 fun x hx => (hl x hx).1⟩
  · simp only [GV.deep]
    have := (deeps_iff l m).2 fun x hx => (hl x hx).2
    simp only [GV.deeps]
    omega
  · rw [enc_4, e, row_encs]
    show 91 :: (GV.encs true l ++ 93 :: r) = _
    simp
theorem no_list {m : Nat} {b : List UInt8} (h : ¬ ∃ l r, (ItmV m).Row b l r) : ¬ ∃ g r, VAt (m + 1) (91 :: b) g r := fun ⟨g, r, e⟩ => by
  obtain ⟨l, hl, hg⟩ := rs_4 e.1 (vat_head e)
  have he := e.2.2.1
  have hd := e.2.1
  rw [hg, enc_4] at he
  rw [hg] at hd
  simp only [GV.deep, GV.deeps] at hd
  refine h ⟨l, r, fun x hx => ⟨(rss_iff l).1 hl x hx, (deeps_iff l m).1 (by omega) x hx⟩, ?_⟩
  rw [row_encs]
  simp only [List.cons_append, List.append_assoc, List.nil_append, List.cons.injEq, true_and] at he
  exact he
theorem no_list0 {b : List UInt8} (h : ∀ t, b ≠ 93 :: t) : ¬ ∃ g r, VAt 0 (91 :: b) g r := fun ⟨g, r, e⟩ => by
  obtain ⟨l, hl, hg⟩ := rs_4 e.1 (vat_head e)
  have he := e.2.2.1
  have hd := e.2.1
  rw [hg, enc_4] at he
  rw [hg] at hd
  simp only [List.cons_append, List.append_assoc, List.nil_append, List.cons.injEq, true_and] at he
  cases l with
  | nil => exact h r (by rw [he, encs_nil]; rfl)
  | cons x l =>
    simp only [GV.deep, GV.deeps] at hd
    omega
theorem vat_list0 (m : Nat) (r : List UInt8) : VAt m (91 :: 93 :: r) (.mk 4 0 ⟨#[]⟩ [] [] []) r :=
  ⟨by simp [GV.RS, GV.RSs, RSelf], by rw [deep_leaf]; omega, by rw [enc_4, encs_nil]; rfl, fun h => by cases h⟩
theorem vat_obj {m : Nat} {b : List UInt8} {l : List (ByteArray × GV)} {r : List UInt8} (h : (ItmF m).Row b l r) : VAt (m + 1) (123 :: b) (.mk 5 0 ⟨#[]⟩ [] (l.map (·.1)) (l.map (·.2))) r := by
  obtain ⟨hl, e⟩ := h
  have hg : ∀ x ∈ l.map (·.2), GV.RS x ∧ x.deep ≤ m := fun x hx => by
    obtain ⟨p, hp, rfl⟩ := List.mem_map.1 hx
    exact hl p hp
  refine ⟨?_, ?_, ?_, fun h => by cases h⟩
  · simp only [GV.RS, GV.RSs, true_and]
    exact ⟨by simp [RSelf], (rss_iff _).2 fun x hx => (hg x hx).1⟩
  · simp only [GV.deep]
    have := (deeps_iff _ m).2 fun x hx => (hg x hx).2
    simp only [GV.deeps]
    omega
  · rw [enc_5, e, row_encFs]
    show 123 :: (_ ++ 125 :: r) = _
    simp
theorem zip_back : ∀ (ks : List ByteArray) (ov : List GV), ks.length = ov.length → (ks.zip ov).map (·.1) = ks ∧ (ks.zip ov).map (·.2) = ov
  | [], [], _ => ⟨rfl, rfl⟩
  | k :: ks, x :: ov, h => by
    have := zip_back ks ov (by simpa using h)
    simp [this.1, this.2]
  | [], _ :: _, h => by simp at h
  | _ :: _, [], h => by simp at h
theorem no_obj {m : Nat} {b : List UInt8} (h : ¬ ∃ l r, (ItmF m).Row b l r) : ¬ ∃ g r, VAt (m + 1) (123 :: b) g r := fun ⟨g, r, e⟩ => by
  obtain ⟨ks, ov, hk, hl, hg⟩ := rs_5 e.1 (vat_head e)
  have he := e.2.2.1
  have hd := e.2.1
  rw [hg, enc_5] at he
  rw [hg] at hd
  simp only [GV.deep, GV.deeps] at hd
  have hz := zip_back ks ov hk
  refine h ⟨ks.zip ov, r, fun x hx => ?_, ?_⟩
  · have hx2 : x.2 ∈ ov := by rw [← hz.2]; exact List.mem_map.2 ⟨x, hx, rfl⟩
    exact ⟨(rss_iff ov).1 hl _ hx2, (deeps_iff ov m).1 (by omega) _ hx2⟩
  · rw [row_encFs, hz.1, hz.2]
    simp only [List.cons_append, List.append_assoc, List.nil_append, List.cons.injEq, true_and] at he
    exact he
theorem no_obj0 {b : List UInt8} (h : ∀ t, b ≠ 125 :: t) : ¬ ∃ g r, VAt 0 (123 :: b) g r := fun ⟨g, r, e⟩ => by
  obtain ⟨ks, ov, hk, hl, hg⟩ := rs_5 e.1 (vat_head e)
  have he := e.2.2.1
  have hd := e.2.1
  rw [hg, enc_5] at he
  rw [hg] at hd
  simp only [List.cons_append, List.append_assoc, List.nil_append, List.cons.injEq, true_and] at he
  cases ov with
  | nil => exact h r (by rw [he, encFs_nil]; rfl)
  | cons x l =>
    simp only [GV.deep, GV.deeps] at hd
    omega
theorem vat_obj0 (m : Nat) (r : List UInt8) : VAt m (123 :: 125 :: r) (.mk 5 0 ⟨#[]⟩ [] [] []) r :=
  ⟨by simp [GV.RS, GV.RSs, RSelf], by rw [deep_leaf]; omega, by rw [enc_5, encFs_nil]; rfl, fun h => by cases h⟩
end Go.Proofs.YtmmjkhkcffgeiaaDoor
