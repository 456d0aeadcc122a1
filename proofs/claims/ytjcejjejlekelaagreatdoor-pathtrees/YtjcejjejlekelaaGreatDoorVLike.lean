/- The likeness of trees, plain mathematics: each is like itself, likeness goes both ways and on, what is the same is equal. -/
import Derived.Test.YtjcejjejlekelaaGreatDoorVSameT
namespace Go.Proofs.YtjcejjejlekelaaGreatDoor
open Go.RowKit

def keyO (l : List UInt8) : Option (Bool × List UInt8 × Int) := if numB l then some (scN l, scD l, scT l) else none
theorem cmp_key (a b : List UInt8) : cmpI a b = 0 ↔ keyO a = keyO b := by
  cases ha : numB a <;> cases hb : numB b
  · simp [cmpI, keyO, ha, hb]
  · simp [cmpI, keyO, ha, hb]
  · simp [cmpI, keyO, ha, hb]
  · rw [cmp_zero a b ha hb]; simp [keyO, ha, hb]
theorem str_iff (lo : Bool) (k : Int) (s t : ByteArray) : strB lo k s t = true ↔ s = t ∨ (lo = true ∧ k = 3 ∧ keyO s.data.toList = keyO t.data.toList) := by
  unfold strB
  simp only [Bool.or_eq_true, Bool.and_eq_true, decide_eq_true_eq, cmp_key, and_assoc]
theorem same_iff (lo : Bool) (T U : VT) : sameT lo T U = true ↔ (T.kd = U.kd ∧ T.nm = U.nm ∧ T.ls.length = U.ls.length ∧ T.vs.length = U.vs.length) ∧ strB lo T.kd T.st U.st = true ∧ sameL lo T.ls U.ls = true ∧ T.ks = U.ks ∧ sameL lo T.vs U.vs = true := by
  rw [sameT_eq]
  simp only [Bool.and_eq_true, decide_eq_true_eq, and_assoc]
mutual
theorem like_turn (lo : Bool) : ∀ T U : VT, sameT lo T U = true → sameT lo U T = true
  | .mk k n s L K V, U, h => by
    rw [same_iff] at h ⊢
    simp only [VT.kd, VT.nm, VT.st, VT.ls, VT.ks, VT.vs] at h ⊢
    obtain ⟨⟨h1, h2, h3, h4⟩, h5, h6, h7, h8⟩ := h
    refine ⟨⟨h1.symm, h2.symm, h3.symm, h4.symm⟩, ?_, likeL_turn lo L U.ls h3 h6, h7.symm, likeL_turn lo V U.vs h4 h8⟩
    rw [str_iff] at h5 ⊢
    rcases h5 with e | ⟨e1, e2, e3⟩
    · exact Or.inl e.symm
    · exact Or.inr ⟨e1, h1 ▸ e2, e3.symm⟩
theorem likeL_turn (lo : Bool) : ∀ L M : List VT, L.length = M.length → sameL lo L M = true → sameL lo M L = true
  | [], [], _, _ => by simp [sameL]
  | [], _ :: _, h, _ => by simp at h
  | _ :: _, [], h, _ => by simp at h
  | t :: r, u :: q, h, g => by
    simp only [sameL, Bool.and_eq_true] at g ⊢
    exact ⟨like_turn lo t u g.1, likeL_turn lo r q (by simpa using h) g.2⟩
end
mutual
theorem like_on (lo : Bool) : ∀ T U W : VT, sameT lo T U = true → sameT lo U W = true → sameT lo T W = true
  | .mk k n s L K V, U, W, h, g => by
    rw [same_iff] at h g ⊢
    simp only [VT.kd, VT.nm, VT.st, VT.ls, VT.ks, VT.vs] at h ⊢
    obtain ⟨⟨h1, h2, h3, h4⟩, h5, h6, h7, h8⟩ := h
    obtain ⟨⟨g1, g2, g3, g4⟩, g5, g6, g7, g8⟩ := g
    refine ⟨⟨h1.trans g1, h2.trans g2, h3.trans g3, h4.trans g4⟩, ?_, likeL_on lo L U.ls W.ls h6 g6, h7.trans g7, likeL_on lo V U.vs W.vs h8 g8⟩
    rw [str_iff] at h5 g5 ⊢
    rcases h5 with e | ⟨e1, e2, e3⟩
    · rcases g5 with f | ⟨f1, f2, f3⟩
      · exact Or.inl (e.trans f)
      · exact Or.inr ⟨f1, h1.trans f2, by rw [e]; exact f3⟩
    · rcases g5 with f | ⟨f1, f2, f3⟩
      · exact Or.inr ⟨e1, e2, e3.trans (congrArg (fun x : ByteArray => keyO x.data.toList) f)⟩
      · exact Or.inr ⟨e1, e2, e3.trans f3⟩
theorem likeL_on (lo : Bool) : ∀ L M N : List VT, sameL lo L M = true → sameL lo M N = true → sameL lo L N = true
  | [], _, _, _, _ => by simp [sameL]
  | _ :: _, [], _, h, _ => by simp [sameL] at h
  | _ :: _, _ :: _, [], _, h => by simp [sameL] at h
  | t :: r, u :: q, v :: p, h, g => by
    simp only [sameL, Bool.and_eq_true] at h g ⊢
    exact ⟨like_on lo t u v h.1 g.1, likeL_on lo r q p h.2 g.2⟩
end
mutual
theorem like_weak : ∀ T U : VT, sameT false T U = true → sameT true T U = true
  | .mk k n s L K V, U, h => by
    rw [same_iff] at h ⊢
    simp only [VT.kd, VT.nm, VT.st, VT.ls, VT.ks, VT.vs] at h ⊢
    obtain ⟨h1, h5, h6, h7, h8⟩ := h
    refine ⟨h1, ?_, likeL_weak L U.ls h6, h7, likeL_weak V U.vs h8⟩
    rw [str_iff] at h5 ⊢
    rcases h5 with e | ⟨e1, _⟩
    · exact Or.inl e
    · cases e1
theorem likeL_weak : ∀ L M : List VT, sameL false L M = true → sameL true L M = true
  | [], _, _ => by simp [sameL]
  | _ :: _, [], h => by simp [sameL] at h
  | t :: r, u :: q, h => by
    simp only [sameL, Bool.and_eq_true] at h ⊢
    exact ⟨like_weak t u h.1, likeL_weak r q h.2⟩
end
theorem like_both (lo : Bool) (T U : VT) : sameT lo T U = sameT lo U T := by
  rw [Bool.eq_iff_iff]; exact ⟨like_turn lo T U, like_turn lo U T⟩
mutual
theorem like_self : ∀ T : VT, sameT false T T = true
  | .mk k n s L K V => by
    have h1 := likeL_self L
    have h2 := likeL_self V
    simp only [sameT, VT.kd, VT.nm, VT.st, VT.ls, VT.ks, VT.vs, strB, h1, h2]
    simp
theorem likeL_self : ∀ L : List VT, sameL false L L = true
  | [] => by simp [sameL]
  | t :: r => by have h1 := like_self t; have h2 := likeL_self r; simp only [sameL, h1, h2, Bool.and_self]
end
end Go.Proofs.YtjcejjejlekelaaGreatDoor
