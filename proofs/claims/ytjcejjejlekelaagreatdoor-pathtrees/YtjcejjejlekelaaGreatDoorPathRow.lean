/- The tree that awake looks at: row, walked. -/
import Derived.Test.YtjcejjejlekelaaGreatDoorVPlus
namespace Go.Proofs.YtjcejjejlekelaaGreatDoor
open Go.RowKit

theorem cells_in {w w' : World} {cs : Array Value} {t : TypeId} {i b : Nat} {v : Value} (hw : w' = w.alloc (.cells cs t)) (hb : b = w.heap.size) (h : cs[i]? = some v) : w'.cell? ⟨b, i, none⟩ = some v := by
  subst hw hb
  rw [World.cell?_alloc_new]; exact h
def cRA : ByteArray := ⟨#[97]⟩
def tRL : VT := .mk 5 0 ⟨#[]⟩ [leafT 2 1 ⟨#[]⟩, leafT 2 2 ⟨#[]⟩] [] []
def tRow : VT := .mk 6 0 ⟨#[]⟩ [] [cRA] [tRL]
theorem hv_row {w : World} {b c : Nat} (h0 : w.cell? ⟨b, 0, none⟩ = some (.int .i64 2) ∧ w.cell? ⟨b, 1, none⟩ = some (.int .i64 1) ∧ w.cell? ⟨b, 2, none⟩ = some (.string ⟨#[]⟩) ∧ w.cell? ⟨b, 3, none⟩ = some (.slice none 0 0) ∧ w.cell? ⟨b, 4, none⟩ = some (.slice none 0 0))
    (h1 : w.cell? ⟨b, 5, none⟩ = some (.int .i64 2) ∧ w.cell? ⟨b, 6, none⟩ = some (.int .i64 2) ∧ w.cell? ⟨b, 7, none⟩ = some (.string ⟨#[]⟩) ∧ w.cell? ⟨b, 8, none⟩ = some (.slice none 0 0) ∧ w.cell? ⟨b, 9, none⟩ = some (.slice none 0 0))
    (h2 : w.cell? ⟨c, 0, none⟩ = some (.string ⟨#[97]⟩) ∧ w.cell? ⟨c, 1, none⟩ = some (.int .i64 5) ∧ w.cell? ⟨c, 2, none⟩ = some (.int .i64 0) ∧ w.cell? ⟨c, 3, none⟩ = some (.string ⟨#[]⟩) ∧ w.cell? ⟨c, 4, none⟩ = some (.slice (some ⟨b, 0, none⟩) 2 2) ∧ w.cell? ⟨c, 5, none⟩ = some (.slice none 0 0)) :
    HV w tRow (.slice none 0 0) (.slice (some ⟨c, 0, none⟩) 1 1) := by
  have hl : HV w tRL (.slice (some ⟨b, 0, none⟩) 2 2) (.slice none 0 0) := by
    refine hv_in (by decide) (by decide) (by decide) ⟨⟨b, 0, none⟩, fun _ => .slice none 0 0, fun _ => .slice none 0 0, ⟨_, _, rfl, by decide, by decide, fun _ => rfl⟩, fun i t ht => ?_, fun i t ht => ?_⟩ (mf_nil w 0 0).inM
    · rw [add_at]
      match i, ht with
      | 0, ht => simp at ht; subst ht; exact h0
      | 1, ht => simp at ht; subst ht; exact h1
      | i + 2, ht => simp at ht
    · match i, ht with
      | 0, ht => simp at ht; subst ht; exact hv_leaf w _ _ _ (by decide) (by decide) (by decide)
      | 1, ht => simp at ht; subst ht; exact hv_leaf w _ _ _ (by decide) (by decide) (by decide)
      | i + 2, ht => simp at ht
  refine hv_in (by decide) (by decide) (by decide) (lf_nil w 0 0).inL ⟨⟨c, 0, none⟩, fun _ => .slice (some ⟨b, 0, none⟩) 2 2, fun _ => .slice none 0 0, ⟨_, _, rfl, by decide, by decide, fun _ => rfl⟩, rfl, fun i u hu => ?_, fun i t ht => ?_, fun i t ht => ?_⟩
  · rw [add_at]
    match i, hu with
    | 0, hu => simp at hu; subst hu; exact ⟨h2.1, by decide⟩
    | i + 1, hu => simp at hu
  · rw [add_at]
    match i, ht with
    | 0, ht => simp at ht; subst ht; exact ⟨h2.2.1, h2.2.2.1, h2.2.2.2.1, h2.2.2.2.2.1, h2.2.2.2.2.2⟩
    | i + 1, ht => simp at ht
  · match i, ht with
    | 0, ht => simp at ht; subst ht; exact hl
    | i + 1, ht => simp at ht
set_option maxRecDepth 100000 in
set_option maxHeartbeats 1000000 in
theorem prow_any (w : World) : Calls Tryz.prog 13 #[] w fun e w' => ∃ o n c, e = .returned (.agg #[.int .i64 6, .int .i64 0, .string ⟨#[]⟩, .slice none 0 0, .slice o n c]) ∧ HV w' tRow (.slice none 0 0) (.slice o n c) ∧ Below w.heap.size w w' := by
  go_enter Tryz.func13, Tryz.ntmps13
  go_wp2_with fail
  refine bodyPost_ret (v := .agg #[.int .i64 6, .int .i64 0, .string ⟨#[]⟩, .slice none 0 0, .slice (some ⟨w.heap.size + 1 + 1, 0, none⟩) 1 1]) (by simp [results, Tryz.results13, go_sem]) rfl ⟨_, _, _, rfl, hv_row (b := w.heap.size + 1) (c := w.heap.size + 1 + 1) ?_ ?_ ?_, valloc_bel (valloc_bel (valloc_bel (Below.refl _ _) _) _) _⟩
  · refine ⟨?_, ?_, ?_, ?_, ?_⟩ <;> exact keepCell (valloc_bel (Below.refl _ _) _) (cells_in rfl (by simp) rfl)
  · refine ⟨?_, ?_, ?_, ?_, ?_⟩ <;> exact keepCell (valloc_bel (Below.refl _ _) _) (cells_in rfl (by simp) rfl)
  · refine ⟨?_, ?_, ?_, ?_, ?_, ?_⟩ <;> exact cells_in rfl (by simp) rfl
end Go.Proofs.YtjcejjejlekelaaGreatDoor
