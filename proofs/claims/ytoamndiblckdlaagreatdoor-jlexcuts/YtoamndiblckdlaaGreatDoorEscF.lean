/- esc.tomlEscape, oneEscaped, folded, manyEscaped: walked. -/
import Derived.Test.YtoamndiblckdlaaGreatDoorEscE
namespace Go.Proofs.YtoamndiblckdlaaGreatDoor
open Go.RowKit

theorem esc_U (l : List UInt8) (h1 : bt l 1 = 85) : escP true l = escU true l 8 := by
  unfold escP
  rw [h1]
  have : nmV true 85 = 256 := by unfold nmV; simp
  rw [this, if_neg (by omega), if_pos ⟨rfl, rfl⟩]
theorem escT_good {l : List UInt8} {n : Nat} (h0 : 0 ≤ cdI l 2 n) (h : goodB (cdI l 2 n) = true) : escU true l n = (ltr (cdI l 2 n), 2 + n) := by unfold escU; rw [if_pos ⟨h0, h⟩]
theorem escT_bad {l : List UInt8} {n : Nat} (h : goodB (cdI l 2 n) = false) : escU true l n = ([], 0) := by unfold escU; rw [if_neg (by rw [h]; simp), if_neg (by simp)]
theorem nm_none (toml : Bool) (l : List UInt8) (h : bt l 1 = 117 ∨ bt l 1 = 85) : nmP toml l = ([], 0) := by
  unfold nmP
  have : nmV toml (bt l 1) = 256 := by rcases h with h | h <;> rw [h] <;> (unfold nmV; simp)
  rw [this, if_neg (by omega)]
/-- what tomlEscape's two looks for digits find -/
theorem dig_no {l : List UInt8} {c k : Nat} {e : Ending} (h : DigPost l c k e) (hn : ¬ dgOk l c k) : e = .returned (.tuple #[.int .i64 0, .int .i64 0]) := by
  rcases h with ⟨h, -⟩ | ⟨-, h⟩
  · exact absurd h hn
  · exact h
theorem dig_yes {l : List UInt8} {c k : Nat} {e : Ending} (h : DigPost l c k e) (hn : dgOk l c k) : e = .returned (.tuple #[.int .i64 (cdI l 2 k), .int .i64 ((2 + k : Nat) : Int)]) := by
  rcases h with ⟨-, h⟩ | ⟨h, -⟩
  · exact h
  · exact absurd hn h
theorem dropW (p : UInt8 → Bool) (l : List UInt8) : l.dropWhile p = l.drop (run p l) := by
  unfold run
  induction l with
  | nil => rfl
  | cons a t ih =>
    rw [List.dropWhile_cons, List.takeWhile_cons]
    by_cases h : p a = true
    · rw [if_pos h, if_pos h, ih]; rfl
    · rw [if_neg h, if_neg h]; rfl
theorem run_le (p : UInt8 → Bool) (l : List UInt8) : run p l ≤ l.length := by
  unfold run
  exact (List.takeWhile_prefix p).length_le
theorem bk_in : (fun b => ([32, 9] : List UInt8).contains b) = bkB := by
  funext b
  unfold bkB
  rw [Bool.eq_iff_iff]
  simp [← UInt8.toNat_inj]
theorem bl_in : (fun b => ([32, 9, 13, 10] : List UInt8).contains b) = blB := by
  funext b
  unfold blB
  rw [Bool.eq_iff_iff]
  simp [← UInt8.toNat_inj]
  omega
theorem Tryz.trimL (s cs : ByteArray) (w : World) (h : cs.size ≤ 4) (ha : ∀ (j : Nat) b, cs.data.toList[j]? = some b → b.toNat < 128) :
    Calls Tryz.prog 109 #[.string s, .string cs] w fun e w' => e = .returned (.string (mkS (Lib.trimLeftS s.data.toList cs.data.toList))) ∧ Below w.heap.size w w' :=
  Any.strings_TrimLeft_laid Tryz.lays161 (by kernel_rfl) s cs w (by omega) ha
end Go.Proofs.YtoamndiblckdlaaGreatDoor
