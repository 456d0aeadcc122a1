/- The trees that awake makes, and what is told of them. -/
import Derived.Test.YtnpojefcibfgkabGreatDoorVBox
import Derived.Test.YtnpojefcibfgkabGreatDoorVGood
import Derived.Test.YtnpojefcibfgkabGreatDoorVAlike
import Derived.Test.YtnpojefcibfgkabGreatDoorVSize
namespace Go.Proofs.YtnpojefcibfgkabGreatDoor
open Go.RowKit

def cA : ByteArray := ⟨#[97]⟩
def cB : ByteArray := ⟨#[98]⟩
def cX : ByteArray := ⟨#[120]⟩
def cT : ByteArray := ⟨#[49, 48, 58, 48, 48, 58, 48, 48]⟩
def tA : VT := leafT 1 1 ⟨#[]⟩
def tB : VT := leafT 2 1 ⟨#[]⟩
def tN : VT := leafT 2 5 ⟨#[]⟩
def tX : VT := leafT 4 0 cX
def tT : VT := leafT 7 0 cT
def tM : VT := .mk 6 0 ⟨#[]⟩ [] [cA, cB] [tA, tB]
def tL : VT := .mk 5 0 ⟨#[]⟩ [tN, tX, tT, zeroT] [] []
theorem k_num : numR ⟨#[53]⟩ = tN ∧ numE ⟨#[53]⟩ = 0 := ⟨by kernel_rfl, by decide⟩
theorem k_teA : teI cA = 0 ∧ teI cB = 0 ∧ teI cX = 0 := by decide
theorem k_str : strR cX = tX := by kernel_rfl
theorem k_stamp : stampR cT = tT ∧ stampE cT = 0 := ⟨by kernel_rfl, by kernel_rfl⟩
theorem k_ke : keI [cA, cB] = 0 := by decide
theorem k_sz : szT tL = 5 ∧ hgT tL = 2 := by decide
theorem k_may : mayB 0 1 tM = true := by kernel_rfl
theorem k_same : sameT false tM tM = true ∧ sameT true tM tM = true ∧ sameT false tM tL = false := by decide
theorem k_get : getO tM cB = some tB := by kernel_rfl
/-- two pairs in order -/
theorem two_sorted (A : List (ByteArray × VT)) (hp : A.Perm [(cB, tB), (cA, tA)]) (hr : Rising A) : A = [(cA, tA), (cB, tB)] := by
  have h2 : A.length = 2 := hp.length_eq
  match A, h2 with
  | [x, y], _ =>
    have hx : x = (cB, tB) ∨ x = (cA, tA) := by have := hp.subset (show x ∈ [x, y] by simp); simpa using this
    have hlt : ltB cA.data.toList cB.data.toList = true := by decide
    rcases hx with rfl | rfl
    · have h1 := (List.perm_cons _).1 hp
      have hy : y = (cA, tA) := by have := h1.subset (show y ∈ [y] by simp); simpa using this
      subst hy
      have := hr 0 1 _ _ (by omega) rfl rfl
      rw [hlt] at this; cases this
    · have h1 : [y].Perm [(cB, tB)] := (List.perm_cons (cA, tA)).1 (hp.trans (List.Perm.swap _ _ _))
      have hy : y = (cB, tB) := by have := h1.subset (show y ∈ [y] by simp); simpa using this
      rw [hy]
end Go.Proofs.YtnpojefcibfgkabGreatDoor
