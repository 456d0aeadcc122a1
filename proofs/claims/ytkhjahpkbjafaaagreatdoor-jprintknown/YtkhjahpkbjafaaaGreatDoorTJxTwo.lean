
import Derived.Test.YtkhjahpkbjafaaaGreatDoorTJxOne
import Derived.Test.YtkhjahpkbjafaaaGreatDoorTBaseDec
import Derived.Test.YtkhjahpkbjafaaaGreatDoorTDecOne
import Derived.Test.YtkhjahpkbjafaaaGreatDoorTLexTail
import Derived.Test.YtkhjahpkbjafaaaGreatDoorTEscSide
/- jlex.withoutPower, numberError: walked. -/
/- jlex.takeString, takeName, takeNumber, take: walked. -/
/- jlex.takeName, takeNumber, take: walked. -/
/- jlex.take: walked. -/
/- jlex.Cut: walked. -/
/- jlex.Cut: whole. -/
namespace Go.Proofs.YtkhjahpkbjafaaaGreatDoor
open Go.RowKit

/-- why a row is no number -/
def neI (l : List UInt8) : Int := if 400 < l.length then 2 else if numB l = true then 0 else if pOk l = true then 6 else 4
end Go.Proofs.YtkhjahpkbjafaaaGreatDoor
namespace Go.Proofs.YtkhjahpkbjafaaaGreatDoor
open Go.RowKit

/-- what take answers -/
def twV (t : ByteArray) (i : Nat) (x : LW) : Value :=
  if x.er = 0 then .tuple #[.agg #[.int .i64 (x.kd : Nat), .string (mkS x.tx), .int .i64 (i : Nat)], .int .i64 (x.nx : Nat), .agg #[.int .i64 0, .int .i64 0, .int .i64 0, .int .i64 0]]
  else .tuple #[.agg #[.int .i64 0, .string ⟨#[]⟩, .int .i64 0], .int .i64 0, faultV t (x.ea : Nat) (x.er : Nat)]
end Go.Proofs.YtkhjahpkbjafaaaGreatDoor
namespace Go.Proofs.YtkhjahpkbjafaaaGreatDoor
open Go.RowKit

/-- what a number's row is, by why it is none -/
theorem lwN_ne (T : List UInt8) (i : Nat) (P : List UInt8) (hP : (T.drop i).take (run numC (T.drop i)) = P) :
    (neI P = 0 ∧ lwN T i = ⟨3, P, i + run numC (T.drop i), 0, 0⟩) ∨ (neI P ≠ 0 ∧ 0 ≤ neI P ∧ lwN T i = ⟨0, [], 0, (neI P).toNat, i⟩) := by
  have hl : P.length = run numC (T.drop i) := by
    rw [← hP, List.length_take]; exact Nat.min_eq_left (run_le _ _)
  unfold lwN neI
  rw [hP, hl]
  by_cases h4 : 400 < run numC (T.drop i)
  · rw [if_pos h4, if_pos h4]; right; exact ⟨by decide, by decide, rfl⟩
  · rw [if_neg h4, if_neg h4]
    have e : numB P = (pOk P && pwOk (pP P) && decide (P.length ≤ 400)) := rfl
    rw [e, hl, decide_eq_true (show run numC (T.drop i) ≤ 400 by omega), Bool.and_true]
    cases h1 : pOk P with
    | false => right; rw [Bool.false_and]; exact ⟨by decide, by decide, rfl⟩
    | true =>
      rw [Bool.true_and]
      cases h2 : pwOk (pP P) with
      | false => right; exact ⟨by decide, by decide, rfl⟩
      | true => left; exact ⟨by decide, rfl⟩
end Go.Proofs.YtkhjahpkbjafaaaGreatDoor
namespace Go.Proofs.YtkhjahpkbjafaaaGreatDoor
open Go.RowKit

end Go.Proofs.YtkhjahpkbjafaaaGreatDoor
namespace Go.Proofs.YtkhjahpkbjafaaaGreatDoor
open Go.RowKit

theorem at_q {T : List UInt8} {i : Nat} (hi : i < T.length) : T[i]? = some T[i] := List.getElem?_eq_getElem hi
/-- a word that is right is no blank, and goes on behind its beginning -/
theorem lw_good {T : List UInt8} {i : Nat} {b : UInt8} (hT : T[i]? = some b) (hbl : blB b = false) (he : (lw T i).er = 0) : (lw T i).kd ≠ 9 ∧ i < (lw T i).nx ∧ (lw T i).nx ≤ T.length := by
  have hi : i < T.length := (List.getElem?_eq_some_iff.1 hT).1
  cases hsg : sgnB b with
  | true => rw [lw_sg hT hbl hsg]; exact ⟨by simp, by simp, hi⟩
  | false =>
    by_cases hq : b.toNat = 34
    · have e := lw_qt hT hbl hsg hq
      rw [e] at he ⊢
      unfold lwS at he ⊢
      by_cases h0 : 0 ≤ (unqJ T i).2.2
      · rw [if_pos h0] at he; simp at he
      · rw [if_neg h0] at he ⊢
        by_cases h4 : 4096 < (unqJ T i).1.length
        · rw [if_pos h4] at he; simp at he
        · rw [if_neg h4]
          exact ⟨by simp, unqJ_in T i (by omega)⟩
    · cases hn : numS b with
      | true =>
        have e := lw_nm hT hbl hsg hq hn
        rw [e] at he ⊢
        rcases lwN_ne T i _ rfl with ⟨-, h1⟩ | ⟨h0, h1, h2⟩
        · rw [h1]
          have hp := run_pos hT (num_sc hn)
          have hl := run_le numC (T.drop i)
          rw [List.length_drop] at hl
          exact ⟨by simp, by simp only; omega, by simp only; omega⟩
        · rw [h2] at he; simp only at he; omega
      | false =>
        have e := lw_lt hT hbl hsg hq hn
        rw [e] at he ⊢
        unfold lwL at he ⊢
        cases hl : litB ((T.drop i).take (run lowC (T.drop i))) with
        | false => rw [hl] at he; simp at he
        | true =>
          rw [if_pos rfl]
          have hr := run_le lowC (T.drop i)
          rw [List.length_drop] at hr
          have h0 : 0 < run lowC (T.drop i) := by
            rcases Nat.eq_zero_or_pos (run lowC (T.drop i)) with h | h
            · rw [h, List.take_zero] at hl; exact absurd hl (by decide)
            · exact h
          exact ⟨by simp, by simp only; omega, by simp only; omega⟩
/-- the world with the fault's box -/
def Tryz.jbW (w : World) : World := w.alloc (.cells #[.int .i64 0, .int .i64 0, .int .i64 0, .int .i64 0] 30)
end Go.Proofs.YtkhjahpkbjafaaaGreatDoor
namespace Go.Proofs.YtkhjahpkbjafaaaGreatDoor
open Go.RowKit

theorem vlk_in (l : List UInt8) : pos l (vlk l) ≤ l.length := by
  obtain ⟨-, h2, -, -⟩ := least_has (vgo l) l.length 0 (by
    unfold vgo; rw [decide_eq_false (by have := pos_ge l (0 + l.length); omega)]; rfl)
  have e : vlk l = least (vgo l) l.length 0 := rfl
  rw [← e] at h2
  cases hk : vlk l with
  | zero => exact Nat.zero_le _
  | succ k =>
    have h3 := h2 k (Nat.zero_le _) (by omega)
    unfold vgo at h3
    rw [Bool.and_eq_true] at h3
    exact pos_next l k (of_decide_eq_true h3.1)
end Go.Proofs.YtkhjahpkbjafaaaGreatDoor
