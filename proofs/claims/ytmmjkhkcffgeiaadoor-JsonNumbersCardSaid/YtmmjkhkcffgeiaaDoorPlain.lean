/- plain: the first bytes of a text, made ASCII. -/
import Derived.Test.YtmmjkhkcffgeiaaDoorBaseA
import Derived.Test.YtmmjkhkcffgeiaaDoorBaseB
import Derived.Laws.BytesArg
import Derived.Lib.ValidLaws
namespace Go.Proofs.YtmmjkhkcffgeiaaDoor
open Go Go.RowKit Go.Shelf

def low7 (c : UInt8) : Int := (c.toNat : Int) % 128
/-- The text that plain makes. -/
def plainB (s : ByteArray) : ByteArray := strOfNums ((s.data.toList.take 40).map low7)
theorem plain_size (s : ByteArray) : (plainB s).size ≤ 40 := by
  unfold plainB
  rw [strOfNums_size, List.length_map, List.length_take]
  omega
theorem plain_size_le (s : ByteArray) : (plainB s).size ≤ s.size := by
  unfold plainB
  rw [strOfNums_size, List.length_map, List.length_take]
  exact Nat.min_le_right _ _
theorem plain_valid (s : ByteArray) : valid (plainB s) = true := by
  unfold valid
  have h := Lib.validD_ascii (plainB s).data.toList.length (plainB s).data.toList (fun b hb => by
    rw [List.take_length] at hb
    unfold plainB at hb
    rw [strOfNums_data] at hb
    obtain ⟨n, hn, rfl⟩ := List.mem_map.1 hb
    obtain ⟨c, _, rfl⟩ := List.mem_map.1 hn
    unfold low7
    have : ((c.toNat : Int) % 128).toNat < 128 := by omega
    rw [UInt8.toNat_ofNat']
    omega)
  rw [h, List.drop_length]
  rfl

theorem infoByte : (Tryd.prog.info? 5).map (fun i => (i.zero, i.size, i.bytes)) = some (some (.int .u8 0), 1, 1) := by kernel_rfl
def PlainRel (w : World) (s : ByteArray) (v i : Value) (wr : World) : Prop := ∃ k : Nat, i = .int .i64 k ∧ k ≤ s.size ∧ k ≤ 40 ∧
  wr.ownsRow w.heap.size 5 1 v k (((s.data.toList.take k).map low7).map (Value.int .u8)) ∧ Below w.heap.size w wr

set_option maxRecDepth 100000 in
set_option maxHeartbeats 1000000 in
theorem plain_any (s : ByteArray) (w : World) (_hs : s.size ≤ 9223372036854775807) :
    Calls Tryd.prog 45 #[.string s] w fun e w' => e = .returned (.string (plainB s)) ∧ Below w.heap.size w w' := by
  obtain ⟨i0, hi0, hz0, hz1, hz2⟩ := info_parts infoByte
  have HI0 := Lib.hid (And.intro hi0 (And.intro hz0 (And.intro hz1 hz2)))
  clear hi0 hz0 hz1 hz2
  go_enter Tryd.func45, Tryd.ntmps45
  go_wp2
  go_loopw [3, 4] (PlainRel w s) (fun _ i _ => s.size - (intOf i).toNat)
  case atStart => exact ⟨0, rfl, Nat.zero_le _, Nat.zero_le _, World.ownsRow_nil _ _ _ _, Below.refl _ _⟩
  case round =>
    obtain ⟨k, rfl, hk, hk40, hown, hB⟩ := hrel
    obtain ⟨A, c, rfl⟩ := own_form hown
    by_cases hgo : k < s.size ∧ k < 40
    · obtain ⟨hlt, hlt40⟩ := hgo
      have hmax : k + 1 ≤ maxLen := by unfold maxLen; omega
      have hby : (k + 1) * 1 ≤ 140737488355328 := by omega
      have HM := Lib.hid (And.intro hmax hby)
      have HO := Lib.hid hown
      have HB := Lib.hid hB
      have hsn : (s.data.toList.take (k + 1)).map low7 = (s.data.toList.take k).map low7 ++ [low7 s[k]] := by
        rw [List.take_succ_eq_append_getElem (by simpa using hlt), List.map_append]
        rfl
      have HSN := Lib.hid hsn
      have hb0 : 0 ≤ (s[k].toNat : Int) := by omega
      have hb1 : (s[k].toNat : Int) ≤ 255 := by have := s[k].toNat_lt; omega
      have hlow : low7 s[k] = (s[k].toNat : Int) % 128 := rfl
      have HLOW := Lib.hid hlow
      clear hmax hby hown hB hsn hlow
      go_wp2_with (at_builtin; refine wpList_append_own_at _ rfl (.tmp 15) (.tmp 20) 23 rfl w.heap.size 5 i0 _ 1 1 Tryd.underlying23 HI0.out.1 HI0.out.2.1 HI0.out.2.2.1 HI0.out.2.2.2 rfl (by decide) (.slice A k c) k _ rfl (HO.out.alloc _) ⟨wr.heap.size, 0, none⟩ 1 1 [.int .u8 ((s[k].toNat : Int) % 128)] rfl rfl (row_cells' _ _ rfl _ _) (by simp [Value.oneCell']) HM.out.1 HM.out.2 (by have := HB.out.size; simp; omega) ?_; intro v3 W3 hown3 hgrow3 _ hat3; obtain ⟨A3, c3, rfl⟩ := own_form hown3; have H3 := Lib.hid (And.intro hown3 (And.intro hgrow3 hat3)); clear hown3 hgrow3 hat3)
      go_roundw
      case rel => exact ⟨k + 1, by go_num, by omega, by omega, by rw [HSN.out, List.map_append]; exact H3.out.1, (HB.out.alloc HB.out.size _).grown H3.out.2.1 (by have := HB.out.size; simp; omega) (fun j hj => (HO.out.lt j hj).1)⟩
      case measure => simp [intOf]; omega
    · have htk : s.data.toList.take 40 = s.data.toList.take k := by
        by_cases h : k < s.size
        · rw [show k = 40 by omega]
        · rw [List.take_of_length_le (by simp; omega), List.take_of_length_le (by simp; omega)]
      have hlen : ((s.data.toList.take k).map low7).length = k := by simp; omega
      have hconv : (convert 23 9 (.slice A k c)).run Tryd.prog wr = .ok (.string (plainB s)) wr := by
        unfold plainB
        rw [htk]
        rcases hown.2 with ⟨e, hn⟩ | ⟨g, cap, cur, e, _⟩
        · cases e
          exact run_convert_bytes_nil wr _ _ Tryd.underlying23 Tryd.underlying5 _ _ _ Tryd.underlying9
        · cases e
          refine run_convert_bytes_arg wr _ _ Tryd.underlying23 Tryd.underlying5 g 0 k c _ hlen (fun i hi => ?_) _ Tryd.underlying9
          generalize (s.data.toList.take k).map low7 = xs at *
          have := hown.cells (g := g) rfl i (.int .u8 (xs.getD i 0)) (by rw [List.getElem?_map, List.getElem?_eq_getElem (by omega)]; simp [List.getElem?_eq_getElem (show i < xs.length by omega)])
          by_cases e : i = 0 <;> simpa [Addr.add, e] using this
      have HB := Lib.hid hB
      clear htk hlen hown hB
      by_cases hlt : k < s.size
      · have hk4 : ¬ k < 40 := by omega
        clear hgo
        go_wp2
        go_ret
        exact ⟨rfl, HB.out⟩
      · clear hgo
        go_wp2
        go_ret
        exact ⟨rfl, HB.out⟩
end Go.Proofs.YtmmjkhkcffgeiaaDoor
