/- The document's own Cut of chapter 7: what it calls. -/
import Derived.Test.YtoamndiblckdlaaGreatDoorLexD
import Derived.Test.YtoamndiblckdlaaGreatDoorEscRD
import Derived.Test.YtoamndiblckdlaaGreatDoorRefDec
import Derived.Test.YtoamndiblckdlaaGreatDoorRefOne
namespace Go.Proofs.YtoamndiblckdlaaGreatDoor
open Go.RowKit

theorem rd_in {E P : List UInt8 → List UInt8 × Nat} {T : List UInt8} (hE : ∀ l, 0 < l.length → (E l).2 ≤ l.length) (hP : ∀ l, (P l).2 ≤ l.length) : ∀ f i acc, (rd E P T f i acc).2.2 < 0 → i < (rd E P T f i acc).2.1 ∧ (rd E P T f i acc).2.1 ≤ T.length
  | 0, i, acc, h => by rw [rd] at h; simp only at h; omega
  | f + 1, i, acc, h => by
    rw [rd] at h ⊢
    by_cases h1 : T.length ≤ i
    · rw [if_pos h1] at h; simp only at h; omega
    · rw [if_neg h1] at h ⊢
      by_cases h2 : 0 < (E (T.drop i)).2
      · rw [if_pos h2]
        have := hE (T.drop i) (by rw [List.length_drop]; omega)
        rw [List.length_drop] at this
        simp only; omega
      · rw [if_neg h2] at h ⊢
        by_cases h3 : (P (T.drop i)).2 = 0
        · rw [if_pos h3] at h; simp only at h; omega
        · rw [if_neg h3] at h ⊢
          have := rd_in hE hP f _ _ h
          omega
theorem unqJ_in (T : List UInt8) (a : Nat) (h : (unqJ T a).2.2 < 0) : a < (unqJ T a).2.1 ∧ (unqJ T a).2.1 ≤ T.length := by
  unfold unqJ at h ⊢
  by_cases h1 : 0 ≤ (a : Int) ∧ bt T (a : Int).toNat = 34
  · rw [if_pos h1] at h ⊢
    unfold rdA at h ⊢
    have := rd_in (fun l hl => by unfold oE; split <;> simp only <;> omega) (fun l => (fits_js l).1) _ _ _ h
    simp only [Int.toNat_natCast] at this ⊢
    omega
  · rw [if_neg h1] at h
    simp only [plc] at h
    split at h
    · omega
    · split at h <;> omega
theorem Tryz.lexHas : LexHas where
  valid := fun s w h => rvalid_any s w (max_le h)
  unq := fun t a w h => runq_any t a w h
  unqB := unqJ_in
  form := fun s w h => form_any s w (max_le h)
theorem Tryz.rcut_any (t : ByteArray) (w : World) (ht : t.size ≤ 1000000) :
    Calls Tryz.prog 10 #[.string t] w (Tryz.CutPost w (cutA t.data.toList)) := Tryz.rcut_of Tryz.lexHas t w ht
end Go.Proofs.YtoamndiblckdlaaGreatDoor
