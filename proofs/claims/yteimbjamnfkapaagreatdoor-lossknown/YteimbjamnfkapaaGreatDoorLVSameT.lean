/- Trees that are alike. -/
import Derived.Test.YteimbjamnfkapaaGreatDoorLVBase
import Derived.Test.YteimbjamnfkapaaGreatDoorLMathDecAll
import Derived.Test.YteimbjamnfkapaaGreatDoorLOrders
namespace Go.Proofs.YteimbjamnfkapaaGreatDoor
open Go.RowKit
def strB (lo : Bool) (k : Int) (s t : ByteArray) : Bool := decide (s = t) || (lo && decide (k = 3) && decide (cmpI s.data.toList t.data.toList = 0))
mutual
def sameT (lo : Bool) : VT → VT → Bool
 | .mk k n s L K V,T => decide (k = T.kd ∧ n = T.nm ∧ L.length = T.ls.length ∧ V.length = T.vs.length) && strB lo k s T.st && sameL lo L T.ls && decide (K = T.ks) && sameL lo V T.vs
def sameL (lo : Bool) : List VT → List VT → Bool
 | [],_ => true
 | _ :: _,[] => false
 | t :: r,t' :: r' => sameT lo t t' && sameL lo r r'
end
theorem sameL_get (lo : Bool) : ∀ (L M : List VT),L.length = M.length → (sameL lo L M = true ↔ ∀ (i : Nat) (t u : VT),L[i]? = some t → M[i]? = some u → sameT lo t u = true)
 | [],M,_ => by simp [sameL]
 | a :: r,[],h => by simp at h
 | a :: r,b :: r',h => by
  simp only [sameL,Bool.and_eq_true]
  rw [sameL_get lo r r' (by simpa using h)]
  constructor
  ·rintro ⟨h1,h2⟩ i t u hi hj
   cases i with
   | zero => simp at hi hj; subst hi hj; exact h1
   | succ i => simp at hi hj; exact h2 i t u hi hj
  ·intro g
   exact ⟨g 0 a b rfl rfl,fun i t u hi hj => g (i + 1) t u (by simpa using hi) (by simpa using hj)⟩
theorem box2_cell (w wr : World) (c0 c1 c2 c3 c4 : Value) (t : TypeId) (o : Obj) (h : Below (w.heap.size + 2) ((w.alloc (.cells #[c0,c1,c2,c3,c4] t)).alloc o) wr) (j : Nat) (u : Value) (hj : [c0,c1,c2,c3,c4][j]? = some u) : wr.cell? ⟨w.heap.size,j,none⟩ = some u := by
 have hb : Below (w.heap.size + 1) (w.alloc (.cells #[c0,c1,c2,c3,c4] t)) wr := ((Below.refl _ _).alloc (by simp) _).trans (h.mono (by omega))
 exact box_cell w wr c0 c1 c2 c3 c4 t hb j u hj
theorem box2_next (w wr : World) (c0 c1 c2 c3 c4 : Value) (t : TypeId) (o : Obj) (h : Below (w.heap.size + 2) ((w.alloc o).alloc (.cells #[c0,c1,c2,c3,c4] t)) wr) (j : Nat) (u : Value) (hj : [c0,c1,c2,c3,c4][j]? = some u) : wr.cell? ⟨w.heap.size + 1,j,none⟩ = some u := by
 have e : (w.alloc o).heap.size = w.heap.size + 1 := by simp
 have := box_cell (w.alloc o) wr c0 c1 c2 c3 c4 t (by rw [e]; exact h) j u hj
 rwa [e] at this
theorem str_ne (s t : ByteArray) (h : ¬ s = t) : (s.toList == t.toList) = false := by
 rw [beq_eq_false_iff_ne,Lib.toList_data,Lib.toList_data]
 intro hc; apply h; rw [mkS_of s _ rfl,mkS_of t _ rfl,hc]
theorem HV.parts {w : World} {T : VT} {x y : Value} (h : HV w T x y) : ∃ (a b : Addr) (f g p q : Nat → Value) (oL oM : Option Addr) (cL cM : Nat),
  x = .slice oL T.ls.length cL ∧ y = .slice oM T.vs.length cM ∧ T.ls.length ≤ 2 ^ 63 - 1 ∧ T.vs.length ≤ 2 ^ 63 - 1 ∧ (0 < T.ls.length → oL = some a) ∧ (0 < T.vs.length → oM = some b) ∧ T.ks.length = T.vs.length ∧ T.st.size ≤ maxLen ∧
  T.ls.length ≤ cL ∧ T.vs.length ≤ cM ∧
  (∀ i t,T.ls[i]? = some t → Node w (a.add (i * 5)) t (f i) (g i)) ∧ (∀ i u,T.ks[i]? = some u → w.cell? (b.add (i * 6)) = some (.string u) ∧ u.size ≤ maxLen) ∧ (∀ i t,T.vs[i]? = some t → Node w (nx (b.add (i * 6))) t (p i) (q i)) ∧
  (∀ i t,T.ls[i]? = some t → HV w t (f i) (g i)) ∧ (∀ i t,T.vs[i]? = some t → HV w t (p i) (q i)) ∧ (Lit.int .i64 T.kd).wf = true ∧ (Lit.int .i64 T.nm).wf = true := by
 cases h with
 | mk a b f g p q hk hn hs hL hM hK cL cK cM rL rM =>
  obtain ⟨oL,capL,rfl,hL1,hL2,hL3⟩ := hL
  obtain ⟨oM,capM,rfl,hM1,hM2,hM3⟩ := hM
  unfold maxLen at hL2 hM2
  exact ⟨a,b,f,g,p,q,oL,oM,capL,capM,rfl,rfl,Nat.le_trans hL1 hL2,Nat.le_trans hM1 hM2,hL3,hM3,hK,hs,hL1,hM1,cL,cK,cM,rL,rM,hk,hn⟩
theorem sameT_eq (lo : Bool) (T U : VT) : sameT lo T U = (decide (T.kd = U.kd ∧ T.nm = U.nm ∧ T.ls.length = U.ls.length ∧ T.vs.length = U.vs.length) && strB lo T.kd T.st U.st && sameL lo T.ls U.ls && decide (T.ks = U.ks) && sameL lo T.vs U.vs) := by
 cases T; rw [sameT]; rfl
end Go.Proofs.YteimbjamnfkapaaGreatDoor
