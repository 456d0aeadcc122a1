/- The document's own Cut of chapter 7: whole. -/
import Derived.Test.YtoamndiblckdlaaGreatDoorLexC
namespace Go.Proofs.YtoamndiblckdlaaGreatDoor
open Go.RowKit

set_option maxRecDepth 100000 in
set_option maxHeartbeats 2000000 in
theorem Tryz.rcut_of (H : LexHas) (t : ByteArray) (w : World) (ht : t.size ≤ 1000000) :
    Calls Tryz.prog 10 #[.string t] w (Tryz.CutPost w (cutA t.data.toList)) := by
  have HZ := hid (size_list t)
  by_cases h1 : t.size ≤ 65536
  · by_cases hv : rvI t.data.toList < 0
    · exact Tryz.rcut_in H t w h1 hv
    · have HE := hid (show cutA t.data.toList = ([], 3, (rvI t.data.toList).toNat) by unfold cutA; rw [if_neg (by rw [HZ.out]; omega), if_pos (by omega)])
      rw [HE.out]
      have CV := hid (fun X => H.valid t X (by omega))
      obtain ⟨rv, hrv⟩ : ∃ rv, rvI t.data.toList = rv := ⟨_, rfl⟩
      rw [hrv] at CV hv HE ⊢
      clear hrv HE
      have HT3 := hid (show rv = ((rv.toNat : Nat) : Int) from (Int.toNat_of_nonneg (by omega)).symm)
      have hv' : 0 ≤ rv := by omega
      go_enter Tryz.func10, Tryz.ntmps10
      go_wp2_with fail
      go_at_call 17
      refine (CV.out _).mono ?_
      rintro e w1 ⟨rfl, hb1⟩
      have HB1 : Hid (Below (Tryz.bxW w).heap.size (Tryz.bxW w) w1) := hb1
      clear hb1
      obtain ⟨b0, b1, b2, b3⟩ := Tryz.bx_keeps HB1.out
      go_wp2_with fail
      refine bodyPost_ret (v := .tuple #[.slice none 0 0, .agg #[.int .i64 3, .int .i64 rv]]) (by simp [results, Tryz.results10, go_sem, b0, b1]) rfl ?_
      exact Tryz.cut_bad HB1.out rfl rfl HT3.out _ _
  · have HE := hid (show cutA t.data.toList = ([], 2, t.size) by unfold cutA; rw [if_pos (by rw [HZ.out]; omega), HZ.out])
    rw [HE.out]
    clear HE
    go_enter Tryz.func10, Tryz.ntmps10
    go_wp2_with fail
    refine bodyPost_ret (v := .tuple #[.slice none 0 0, .agg #[.int .i64 2, .int .i64 (t.size : Int)]]) (by simp [results, Tryz.results10, go_sem]) rfl ?_
    exact ⟨_, rfl, World.ownsRow_nil _ _ _ _, (Below.refl _ _).alloc (Nat.le_refl _) _⟩
end Go.Proofs.YtoamndiblckdlaaGreatDoor
