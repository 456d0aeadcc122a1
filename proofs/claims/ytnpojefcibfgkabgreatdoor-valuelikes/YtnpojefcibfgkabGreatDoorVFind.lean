/- The value of a key. -/
import Derived.Test.YtnpojefcibfgkabGreatDoorVMath
import Derived.Test.YtnpojefcibfgkabGreatDoorVFresh
import Derived.Lib.Strings
namespace Go.Proofs.YtnpojefcibfgkabGreatDoor
open Go.RowKit

/-- the value of a key in two lists, or none -/
def findK (key : ByteArray) : List ByteArray → List VT → Option VT
  | c :: K, t :: V => if c.data.toList = key.data.toList then some t else findK key K V
  | _, _ => none
def getO (T : VT) (key : ByteArray) : Option VT := if T.kd = 6 then findK key T.ks T.vs else none
def zeroT : VT := .mk 0 0 ⟨#[]⟩ [] [] []
theorem hv_zero (w : World) : HV w zeroT (.slice none 0 0) (.slice none 0 0) :=
  .mk ⟨0, 0, none⟩ ⟨0, 0, none⟩ (fun _ => .int .i64 0) (fun _ => .int .i64 0) (fun _ => .int .i64 0) (fun _ => .int .i64 0) (by decide) (by decide) (by decide)
    ⟨none, 0, rfl, Nat.le_refl _, Nat.zero_le _, fun h => absurd h (Nat.lt_irrefl 0)⟩ ⟨none, 0, rfl, Nat.le_refl _, Nat.zero_le _, fun h => absurd h (Nat.lt_irrefl 0)⟩ rfl
    (fun i t h => by simp at h) (fun i t h => by simp at h) (fun i t h => by simp at h) (fun i t h => by simp at h) (fun i t h => by simp at h)
theorem findK_none (key : ByteArray) : ∀ (K : List ByteArray) (V : List VT), (∀ (i : Nat) (c : ByteArray), K[i]? = some c → ¬ c.data.toList = key.data.toList) → findK key K V = none
  | [], _, _ => by simp [findK]
  | c :: K, [], _ => by simp [findK]
  | c :: K, t :: V, h => by
    rw [findK, if_neg (h 0 c rfl)]
    exact findK_none key K V (fun i c' hi => h (i + 1) c' (by simpa using hi))
theorem findK_some (key : ByteArray) : ∀ (K : List ByteArray) (V : List VT) (j : Nat) (c : ByteArray) (t : VT), K[j]? = some c → V[j]? = some t → c.data.toList = key.data.toList → (∀ (i : Nat) (c' : ByteArray), i < j → K[i]? = some c' → ¬ c'.data.toList = key.data.toList) → findK key K V = some t
  | [], _, j, c, t, h, _, _, _ => by simp at h
  | a :: K, [], j, c, t, _, h, _, _ => by simp at h
  | a :: K, b :: V, 0, c, t, h, g, e, _ => by
    simp at h g; subst h g; rw [findK, if_pos e]
  | a :: K, b :: V, j + 1, c, t, h, g, e, n => by
    rw [findK, if_neg (n 0 a (by omega) rfl)]
    exact findK_some key K V j c t (by simpa using h) (by simpa using g) e (fun i c' hi hc => n (i + 1) c' (by omega) (by simpa using hc))
theorem txt_is (c key : ByteArray) (h : c.data.toList = key.data.toList) : (c.toList == key.toList) = true := by rw [Lib.toList_data, Lib.toList_data, h]; exact beq_self_eq_true _
theorem txt_no (c key : ByteArray) (h : ¬ c.data.toList = key.data.toList) : (c.toList == key.toList) = false := by rw [Lib.toList_data, Lib.toList_data]; exact beq_eq_false_iff_ne.2 h
end Go.Proofs.YtnpojefcibfgkabGreatDoor
