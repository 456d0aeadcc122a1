/- Package place, walked: Of, Fault; and the document's own reckoning of both. -/
import Derived.Test.YtoamndiblckdlaaGreatDoorPlaceA
import Derived.Test.YtoamndiblckdlaaGreatDoorRefStarts
import Derived.Deep.QuietTactic
import Derived.BigQuiet
namespace Go.Proofs.YtoamndiblckdlaaGreatDoor
open Go.RowKit

theorem take_list (s : ByteArray) (k : Nat) : (s.extract 0 k).data.toList = s.data.toList.take k := by simp
theorem take_size (s : ByteArray) (k : Nat) (h : k ≤ s.size) : (s.extract 0 k).size = k := by simp [h]
/-- the line and the column of a place -/
def ofL (t : ByteArray) (a : Int) : Nat := linOf (t.data.toList.take (clN t.size a))
def ofC (t : ByteArray) (a : Int) : Nat := colOf (t.data.toList.take (clN t.size a))
theorem colOf_at (m : ByteArray) : colOf m.data.toList = cnt (m.data.toList.drop (bol m.data.toList m.size)) + 1 := by
  unfold colOf; rw [size_list]
theorem count_at (s : ByteArray) (p : Nat) (w : World) (hs : s.size ≤ maxLen) :
    Calls Tryz.prog 42 #[.string (s.extract p s.size)] w fun e w' => e = .returned (.int .i64 (cnt (s.data.toList.drop p))) ∧ w' = w := by
  have := count_any (s.extract p s.size) w (cut_size _ _ hs)
  rwa [drop_list] at this
set_option maxRecDepth 100000 in
set_option maxHeartbeats 400000 in
theorem of_any (t : ByteArray) (a : Int) (w : World) (hs : t.size ≤ 1000000) :
    Calls Tryz.prog 25 #[.string t, .int .i64 a] w fun e w' => e = .returned (.tuple #[.int .i64 (ofL t a), .int .i64 (ofC t a)]) ∧ ∃ n, w' = w.drewN n := by
  have hc := clN_le t.size a
  obtain ⟨k, hk⟩ : ∃ k, clN t.size a = k := ⟨_, rfl⟩
  have HK := hid hk
  obtain ⟨m, hm⟩ : ∃ m, t.extract 0 k = m := ⟨_, rfl⟩
  have hms : m.size = k := by rw [← hm]; exact take_size t k (by omega)
  have HL := hid (show m.data.toList = t.data.toList.take k by rw [← hm]; exact take_list t k)
  have hmx : m.size ≤ maxLen := max_le (by omega)
  have hb := bol_le m.data.toList m.size
  have HC := hid (colOf_at m)
  have hcn : cnt (m.data.toList.drop (bol m.data.toList m.size)) ≤ m.size := by
    have := cnt_le (m.data.toList.drop (bol m.data.toList m.size)); rw [List.length_drop, size_list] at this; omega
  have hkt : k ≤ t.size := by omega
  have HM := hid hmx
  have hmy : m.size ≤ 1000000 := by omega
  clear hmx hms hk
  have e1 : ((bol m.data.toList m.size : Nat) : Int) - 1 + 1 = ((bol m.data.toList m.size : Nat) : Int) := by omega
  go_enter Tryz.func25, Tryz.ntmps25
  go_wp2_with (first
    | (go_at_call 26; go_must (refine (clamp_any _ _ _).mono ?_; rintro e w' ⟨rfl, rfl⟩; rw [HK.out]))
    | (go_at_call 40; go_must (refine (last_any _ _ HM.out).mono ?_; rintro e w' ⟨rfl, rfl⟩)))
  go_quiet (first
    | (go_at_call 41; go_must (exact Calls.quiet_of_same (lines_any _ _ hmy)))
    | (go_at_call 42; go_must (exact Calls.quiet_of_same (count_at _ _ _ HM.out))))
  go_wp2_with fail
  go_ret2
  exact ⟨ret_two (by unfold ofL; rw [HK.out, ← HL.out]) (by unfold ofC; rw [HK.out, ← HL.out, HC.out]; omega), _, rfl⟩
theorem below_drewN {B : Nat} {a w : World} (h : Below B a w) (n : Nat) : Below B a (w.drewN n) := h.trans ⟨rfl, rfl, rfl, Nat.le_refl _, fun _ _ => rfl⟩
theorem keeps {W V : World} (h : Below W.heap.size W V) : (∀ b o, b < W.heap.size → V.cell? ⟨b, o, none⟩ = W.cell? ⟨b, o, none⟩) ∧ ∀ b o, b < W.heap.size → V.frozen? ⟨b, o, none⟩ = W.frozen? ⟨b, o, none⟩ :=
  ⟨fun _ _ g => h.cell g, fun _ _ g => h.frozen g⟩
theorem onto {w a b : World} (h : Below w.heap.size w a) (k : Below a.heap.size a b) : Below w.heap.size w b := h.trans (k.mono h.size)
/-- a fault, as a value -/
def faultV (t : ByteArray) (a e : Int) : Value := .agg #[.int .i64 e, .int .i64 (clN t.size a), .int .i64 (ofL t a), .int .i64 (ofC t a)]
set_option maxRecDepth 100000 in
set_option maxHeartbeats 400000 in
theorem fault_any (t : ByteArray) (a e : Int) (w : World) (hs : t.size ≤ 1000000) :
    Calls Tryz.prog 13 #[.string t, .int .i64 a, .int .i64 e] w fun e' w' => e' = .returned (faultV t a e) ∧ Below w.heap.size w w' := by
  go_enter Tryz.func13, Tryz.ntmps13
  go_wp2_with (first
    | (go_at_call 25; go_must (refine (of_any _ _ _ hs).mono ?_; rintro e' w' ⟨rfl, n, rfl⟩))
    | (go_at_call 26; go_must (refine (clamp_any _ _ _).mono ?_; rintro e' w' ⟨rfl, rfl⟩)))
  refine bodyPost_ret (v := faultV t a e) (by simp [results, Tryz.results13, go_sem, faultV]) rfl ⟨rfl, ?_⟩
  exact ((((below_drewN ((Below.refl _ _).alloc (Nat.le_refl _) _) n).setCell (Nat.le_refl _) _).setCell (Nat.le_refl _) _).setCell (Nat.le_refl _) _).setCell (Nat.le_refl _) _
end Go.Proofs.YtoamndiblckdlaaGreatDoor
