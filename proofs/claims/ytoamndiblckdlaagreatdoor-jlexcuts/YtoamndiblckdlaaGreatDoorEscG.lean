/- esc.oneEnd, manyEnd, from, read: walked. -/
import Derived.Test.YtoamndiblckdlaaGreatDoorEscF
import Derived.Deep.QuietTactic
import Derived.BigQuiet
namespace Go.Proofs.YtoamndiblckdlaaGreatDoor
open Go.RowKit

/-- a row of bytes that is owned, read as a text -/
theorem conv_own (w : World) (base : Nat) (v : Value) (l : List UInt8) (h : w.ownsRow base 5 1 v l.length (Lib.strCells (mkS l))) :
    (convert 29 9 v).run Tryz.prog w = .ok (.string (mkS l)) w := by
  have h' := h
  rcases h' with ⟨-, ⟨rfl, hn⟩ | ⟨g, cap, cur, rfl, -⟩⟩
  · obtain rfl : l = [] := List.length_eq_zero_iff.1 hn
    exact run_convert_bytes_nil w 29 5 Tryz.underlying29 Tryz.underlying5 0 0 9 Tryz.underlying9
  · refine run_convert_bytes_back w 29 9 5 ⟨g, 0, none⟩ cap l Tryz.underlying29 Tryz.underlying5 Tryz.underlying9 (fun j hj => ?_)
    refine h.cells (g := g) rfl j _ ?_
    unfold Lib.strCells
    rw [mkS_list, List.getElem?_map, List.getElem?_eq_getElem hj]; rfl
theorem strCells_app (a b : List UInt8) : Lib.strCells (mkS (a ++ b)) = Lib.strCells (mkS a) ++ Lib.strCells (mkS b) := by
  unfold Lib.strCells; rw [mkS_list, mkS_list, mkS_list, List.map_append]
/-- what an end's function owes, in the worlds above one -/
def EndOf (w : World) (f : FuncId) (b : Nat) (E : List UInt8 → List UInt8 × Nat) : Prop := ∀ (s : ByteArray) (X : World), Below w.heap.size w X → s.size ≤ maxLen → 0 < s.size →
  Calls Tryz.prog f #[.string s, .pointer (some ⟨b, 0, none⟩)] X fun e w' => e = .returned (.tuple #[.string (mkS (E s.data.toList).1), .int .i64 ((E s.data.toList).2 : Nat)]) ∧ Below X.heap.size X w'
theorem drewN_below (w : World) (n : Nat) : Below w.heap.size w (w.drewN n) := by
  induction n with
  | zero => exact Below.refl _ _
  | succ n ih => exact ih.drew
set_option maxRecDepth 100000 in
set_option maxHeartbeats 1000000 in
theorem oend1_any (q : UInt8) (b : Nat) (s : ByteArray) (w : World) (h0 : 0 < s.size) (hc : w.cell? ⟨b, 0, none⟩ = some (.int .u8 (q.toNat : Int))) :
    Calls Tryz.prog 71 #[.string s, .pointer (some ⟨b, 0, none⟩)] w fun e w' => e = .returned (.tuple #[.string (mkS (oE q.toNat s.data.toList).1), .int .i64 ((oE q.toNat s.data.toList).2 : Nat)]) ∧ Below w.heap.size w w' := by
  have B0 := hid (bt_at s 0 h0)
  by_cases hq : s[0].toNat = q.toNat
  · have HE := hid (show oE q.toNat s.data.toList = ([], 1) by unfold oE; rw [B0.out, if_pos hq])
    have g : ((s[0].toNat : Int) != (q.toNat : Int)) = false := by rw [bne_eq_false_iff_eq]; omega
    clear hq
    go_enter Tryz.func71, Tryz.ntmps71
    go_wp2
    go_quiet (fail)
    go_wp2
    go_ret2
    exact ⟨ret_sn (by rw [HE.out]; rfl) (by rw [HE.out]; rfl), drewN_below _ _⟩
  · have HE := hid (show oE q.toNat s.data.toList = ([], 0) by unfold oE; rw [B0.out, if_neg hq])
    have g : ((s[0].toNat : Int) != (q.toNat : Int)) = true := by rw [bne_iff_ne]; omega
    clear hq
    go_enter Tryz.func71, Tryz.ntmps71
    go_wp2
    go_quiet (fail)
    go_wp2
    go_ret2
    exact ⟨ret_sn (by rw [HE.out]; rfl) (by rw [HE.out]; rfl), drewN_below _ _⟩
theorem qN_le (q : Nat) (l : List UInt8) : qN q l ≤ 5 ∧ qN q l ≤ l.length := by
  unfold qN
  have := run_le (fun b => decide (b.toNat = q)) (l.take 5)
  rw [List.length_take] at this
  omega
theorem run_eq (p : UInt8 → Bool) (l : List UInt8) (n : Nat) (h1 : ∀ j, j < n → ∃ b, l[j]? = some b ∧ p b = true) (h2 : ∀ b, l[n]? = some b → p b = false) : run p l = n := by
  induction l generalizing n with
  | nil =>
    cases n with
    | zero => rfl
    | succ n => obtain ⟨b, hb, -⟩ := h1 0 (by omega); simp at hb
  | cons a t ih =>
    cases n with
    | zero =>
      have := h2 a rfl
      unfold run; rw [List.takeWhile_cons, this]; rfl
    | succ n =>
      obtain ⟨b, hb, hp⟩ := h1 0 (by omega)
      obtain rfl : a = b := by simpa using hb
      have := ih n (fun j hj => by simpa using h1 (j + 1) (by omega)) (fun b hb => h2 b (by simpa using hb))
      unfold run at this ⊢
      rw [List.takeWhile_cons, if_pos hp, List.length_cons, this]
theorem qN_eq (q : Nat) (l : List UInt8) (n : Nat) (hn : n ≤ 5) (h1 : ∀ j, j < n → bt l j = q) (hq : q < 256) (h2 : n < 5 → bt l n ≠ q) : qN q l = n := by
  unfold qN
  refine run_eq _ _ n (fun j hj => ?_) (fun b hb => ?_)
  · have hlt : j < l.length := bt_lt (by rw [h1 j hj]; exact hq)
    refine ⟨l[j], ?_, ?_⟩
    · rw [List.getElem?_take_of_lt (by omega), List.getElem?_eq_getElem hlt]
    · have := h1 j hj
      rw [bt_some (List.getElem?_eq_getElem hlt)] at this
      exact decide_eq_true this
  · by_cases h5 : n < 5
    · rw [List.getElem?_take_of_lt h5] at hb
      have := h2 h5
      rw [bt_some hb] at this
      exact decide_eq_false this
    · rw [List.getElem?_eq_none (by rw [List.length_take]; omega)] at hb; cases hb
set_option maxRecDepth 100000 in
set_option maxHeartbeats 400000 in
theorem oend_any (q : UInt8) (w : World) : Calls Tryz.prog 60 #[.int .u8 (q.toNat : Int)] w fun e w' => e = .returned (.func (.func 71) #[] #[.pointer (some ⟨w.heap.size, 0, none⟩)]) ∧ w' = w.alloc (.cells #[.int .u8 (q.toNat : Int)] 5) := by
  go_enter Tryz.func60, Tryz.ntmps60
  go_wp2
  go_ret
  exact ⟨rfl, rfl⟩
end Go.Proofs.YtoamndiblckdlaaGreatDoor
