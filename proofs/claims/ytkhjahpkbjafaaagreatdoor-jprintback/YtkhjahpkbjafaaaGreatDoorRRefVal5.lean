/- What the laws of JSON's reader share. -/
import Derived.Test.YtkhjahpkbjafaaaGreatDoorRJrThree
import Derived.Test.YtkhjahpkbjafaaaGreatDoorRRefVal4
import Derived.Test.YtkhjahpkbjafaaaGreatDoorREscK
import Derived.Test.YtkhjahpkbjafaaaGreatDoorRMathSt
import Derived.Lib.LaidTab
import Derived.Test.YtkhjahpkbjafaaaGreatDoorRRefOne
import Derived.Test.YtkhjahpkbjafaaaGreatDoorRRefDec
/- What the printer's laws' list of variables gives. -/
/- The document's own judgement of texts in trees, walked: Str, Stamp. -/
/- The statements of layer 8: what the document tells of a few texts. -/
/- The statements of layer 8: what the program reads is what the document reads. -/
namespace Go.Proofs.YtkhjahpkbjafaaaGreatDoor
open Go.RowKit

/-- what awake reads first -/
def tA : VT := .mk 6 0 ⟨#[]⟩ [] [⟨#[97]⟩, ⟨#[98]⟩] [.mk 5 0 ⟨#[]⟩ [] [] [], .mk 2 1 ⟨#[]⟩ [] [] []]
end Go.Proofs.YtkhjahpkbjafaaaGreatDoor
namespace Go.Proofs.YtkhjahpkbjafaaaGreatDoor
open Go.RowKit

mutual
theorem same_me : ∀ T : VT, sameT false T T = true
  | .mk k n s L K V => by
    have h1 := same_meL L
    have h2 := same_meL V
    simp [sameT, strB, VT.kd, VT.nm, VT.st, VT.ls, VT.ks, VT.vs, h1, h2]
theorem same_meL : ∀ L : List VT, sameL false L L = true
  | [] => rfl
  | t :: r => by have h1 := same_me t; have h2 := same_meL r; simp only [sameL, h1, h2, Bool.and_self]
end
end Go.Proofs.YtkhjahpkbjafaaaGreatDoor
namespace Go.Proofs.YtkhjahpkbjafaaaGreatDoor
open Go.RowKit

theorem fault_cells (w : World) (A : Obj) (a b c d : Int) :
    ((w.alloc A).alloc (.cells #[.int .i64 a, .int .i64 b, .int .i64 c, .int .i64 d] 30)).cell? ⟨w.heap.size + 1, 0, none⟩ = some (.int .i64 a) ∧
    ((w.alloc A).alloc (.cells #[.int .i64 a, .int .i64 b, .int .i64 c, .int .i64 d] 30)).cell? ⟨w.heap.size + 1, 1, none⟩ = some (.int .i64 b) ∧
    ((w.alloc A).alloc (.cells #[.int .i64 a, .int .i64 b, .int .i64 c, .int .i64 d] 30)).cell? ⟨w.heap.size + 1, 2, none⟩ = some (.int .i64 c) ∧
    ((w.alloc A).alloc (.cells #[.int .i64 a, .int .i64 b, .int .i64 c, .int .i64 d] 30)).cell? ⟨w.heap.size + 1, 3, none⟩ = some (.int .i64 d) := by
  rw [← World.size_alloc w A]
  refine ⟨?_, ?_, ?_, ?_⟩ <;> simp
theorem value_cells (w : World) (a b : Int) (c : ByteArray) (x y : Value) (B : Obj) :
    ((w.alloc (.cells #[.int .i64 a, .int .i64 b, .string c, x, y] 27)).alloc B).cell? ⟨w.heap.size, 0, none⟩ = some (.int .i64 a) ∧
    ((w.alloc (.cells #[.int .i64 a, .int .i64 b, .string c, x, y] 27)).alloc B).cell? ⟨w.heap.size, 1, none⟩ = some (.int .i64 b) ∧
    ((w.alloc (.cells #[.int .i64 a, .int .i64 b, .string c, x, y] 27)).alloc B).cell? ⟨w.heap.size, 2, none⟩ = some (.string c) ∧
    ((w.alloc (.cells #[.int .i64 a, .int .i64 b, .string c, x, y] 27)).alloc B).cell? ⟨w.heap.size, 3, none⟩ = some x ∧
    ((w.alloc (.cells #[.int .i64 a, .int .i64 b, .string c, x, y] 27)).alloc B).cell? ⟨w.heap.size, 4, none⟩ = some y := by
  refine ⟨?_, ?_, ?_, ?_, ?_⟩ <;> simp
end Go.Proofs.YtkhjahpkbjafaaaGreatDoor
namespace Go.Proofs.YtkhjahpkbjafaaaGreatDoor
open Go.RowKit

theorem lg1 : Tryz.prog.globalNamed "internal/strconv.uint64pow10" = some 1 := by kernel_rfl
theorem lg2 : (Tryz.prog.globals[1]?).map (·.type) = some 198 := by kernel_rfl
theorem lg3 : Tryz.prog.cellsOf 166 = 1 := by kernel_rfl
theorem lg4 : Tryz.prog.cellsOf 198 = 20 := by kernel_rfl
/-- the reader's and the printer's -/
def GlobA (W : World) : Prop := Globs W ∧ GlobT W
theorem GlobA.p {W : World} (h : GlobA W) : GlobP W := ⟨h.1.1, h.2⟩
theorem globa {W : World} (h : laidMetH Tryz.prog Rows.jprintSaysRow.laid W) : GlobA W := by
  have h1 := pick_laid h (fun x => x.1 == "internal/strconv.uint64pow10") ("internal/strconv.uint64pow10", Rows.laid_internal_strconv_uint64pow10) (by kernel_rfl) (by kernel_rfl)
  exact ⟨globs_gen h (by kernel_rfl) (by kernel_rfl) (by kernel_rfl) (by kernel_rfl), Lib.tabIs_of_head (rest := []) (zs := Lib.pow10Tab) lg1 lg2 Tryz.underlying198 Tryz.underlying166 lg3 lg4 h1⟩
end Go.Proofs.YtkhjahpkbjafaaaGreatDoor
namespace Go.Proofs.YtkhjahpkbjafaaaGreatDoor
open Go.RowKit

set_option maxRecDepth 100000 in
set_option maxHeartbeats 400000 in
theorem str_any (s : ByteArray) (w : World) (hs : s.size ≤ maxLen) :
    Calls Tryz.prog 17 #[.string s] w fun e w' => e = .returned (.bool (strOkB s)) ∧ Below w.heap.size w w' := by
  have HS := hid hs
  unfold maxLen at hs
  by_cases h4 : s.size ≤ 4096
  · have H := hid (show strOkB s = decide (rvI s.data.toList < 0) by unfold strOkB; rw [decide_eq_true h4]; rfl)
    go_enter Tryz.func17, Tryz.ntmps17
    go_wp2_with (go_at_call 29; go_must (refine (rvalid_any _ _ HS.out).mono ?_; rintro e w1 ⟨rfl, hb1⟩))
    go_ret
    exact ⟨ret_bool H.out.symm, hb1⟩
  · have H := hid (show strOkB s = false by unfold strOkB; rw [decide_eq_false h4]; rfl)
    go_enter Tryz.func17, Tryz.ntmps17
    go_wp2_with fail
    go_ret
    exact ⟨ret_bool H.out.symm, Below.refl _ _⟩
set_option maxRecDepth 100000 in
set_option maxHeartbeats 400000 in
theorem stamp_any (s : ByteArray) (w : World) (hs : s.size ≤ maxLen) :
    Calls Tryz.prog 49 #[.string s] w fun e w' => e = .returned (.bool (stampB s)) ∧ w' = w := by
  unfold maxLen at hs
  have HZ := hid (size_list s)
  by_cases h1 : s.size < 1
  · have H := hid (show stampB s = false by unfold stampB; rw [decide_eq_false (by omega)]; rfl)
    go_enter Tryz.func49, Tryz.ntmps49
    go_wp2_with fail
    go_ret
    exact ⟨ret_bool H.out.symm, rfl⟩
  · by_cases h2 : s.size > 64
    · have H := hid (show stampB s = false by unfold stampB; rw [decide_eq_false (show ¬ s.size ≤ 64 by omega)]; simp)
      go_enter Tryz.func49, Tryz.ntmps49
      go_wp2_with fail
      go_ret
      exact ⟨ret_bool H.out.symm, rfl⟩
    · have H := hid (show stampB s = s.data.toList.all (fun b => decide (32 ≤ b.toNat) && decide (b.toNat ≤ 126)) by
        unfold stampB; rw [decide_eq_true (show 1 ≤ s.size by omega), decide_eq_true (show s.size ≤ 64 by omega)]; rfl)
      go_enter Tryz.func49, Tryz.ntmps49
      go_wp2_with fail
      go_loop [3] (fun i => ∃ j : Nat, j ≤ s.size ∧ i = .int .i64 j ∧ Hid (∀ k (h : k < s.size), k < j → 32 ≤ s[k].toNat ∧ s[k].toNat ≤ 126)) (fun i => s.size - (intOf i).toNat)
      case atStart => exact ⟨0, Nat.zero_le _, rfl, fun k h hk => absurd hk (by omega)⟩
      case round =>
        obtain ⟨j, hj, rfl, HJ⟩ := hrel
        by_cases hlt : j < s.size
        · have HG := hid (getD_at s j hlt)
          by_cases h3 : s[j].toNat < 32
          · have HF := hid (show stampB s = false by
              rw [H.out, Bool.eq_false_iff]; intro hc
              have := List.all_eq_true.1 hc s[j] (by rw [← HG.out, List.getD, List.getElem?_eq_getElem (by rw [HZ.out]; exact hlt)]; exact List.getElem_mem _)
              simp at this; omega)
            go_wp2_with fail
            go_ret
            exact ⟨ret_bool HF.out.symm, rfl⟩
          · by_cases h4 : s[j].toNat > 126
            · have HF := hid (show stampB s = false by
                rw [H.out, Bool.eq_false_iff]; intro hc
                have := List.all_eq_true.1 hc s[j] (by rw [← HG.out, List.getD, List.getElem?_eq_getElem (by rw [HZ.out]; exact hlt)]; exact List.getElem_mem _)
                simp at this; omega)
              go_wp2_with fail
              go_ret
              exact ⟨ret_bool HF.out.symm, rfl⟩
            · go_wp2_with fail
              go_round
              case rel => exact ⟨j + 1, hlt, val_int (by omega), fun k h hk => by
                by_cases e : k = j
                · subst e; exact ⟨by omega, by omega⟩
                · exact HJ.out k h (by omega)⟩
              case measure => simp [intOf]; omega
        · have HF := hid (show stampB s = true by
            rw [H.out]; refine List.all_eq_true.2 fun b hb => ?_
            obtain ⟨k, hk, rfl⟩ := List.getElem_of_mem hb
            have hk' : k < s.size := by rw [← HZ.out]; exact hk
            have := HJ.out k hk' (by omega)
            simp; exact this)
          go_wp2_with fail
          go_ret
          exact ⟨ret_bool HF.out.symm, rfl⟩
end Go.Proofs.YtkhjahpkbjafaaaGreatDoor
