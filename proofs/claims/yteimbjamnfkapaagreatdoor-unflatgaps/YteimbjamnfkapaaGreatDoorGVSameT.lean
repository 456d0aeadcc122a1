/- Trees that are alike. -/
import Derived.Test.YteimbjamnfkapaaGreatDoorGVBase
import Derived.Test.YteimbjamnfkapaaGreatDoorGMathDecAll
import Derived.Test.YteimbjamnfkapaaGreatDoorGOrders
namespace Go.Proofs.YteimbjamnfkapaaGreatDoor
open Go.RowKit
def strB (lo : Bool) (k : Int) (s t : ByteArray) : Bool := decide (s = t) || (lo && decide (k = 3) && decide (cmpI s.data.toList t.data.toList = 0))
mutual
def sameT (lo : Bool) : VT → VT → Bool
 | .mk k n s L K V, T => decide (k = T.kd ∧ n = T.nm ∧ L.length = T.ls.length ∧ V.length = T.vs.length) && strB lo k s T.st && sameL lo L T.ls && decide (K = T.ks) && sameL lo V T.vs
def sameL (lo : Bool) : List VT → List VT → Bool
 | [], _ => true
 | _ :: _, [] => false
 | t :: r, t' :: r' => sameT lo t t' && sameL lo r r'
end
theorem HV.parts {w : World} {T : VT} {x y : Value} (h : HV w T x y) : ∃ (a b : Addr) (f g p q : Nat → Value) (oL oM : Option Addr) (cL cM : Nat),
  x = .slice oL T.ls.length cL ∧ y = .slice oM T.vs.length cM ∧ T.ls.length ≤ 2 ^ 63 - 1 ∧ T.vs.length ≤ 2 ^ 63 - 1 ∧ (0 < T.ls.length → oL = some a) ∧ (0 < T.vs.length → oM = some b) ∧ T.ks.length = T.vs.length ∧ T.st.size ≤ maxLen ∧
  T.ls.length ≤ cL ∧ T.vs.length ≤ cM ∧
  (∀ i t, T.ls[i]? = some t → Node w (a.add (i * 5)) t (f i) (g i)) ∧ (∀ i u, T.ks[i]? = some u → w.cell? (b.add (i * 6)) = some (.string u) ∧ u.size ≤ maxLen) ∧ (∀ i t, T.vs[i]? = some t → Node w (nx (b.add (i * 6))) t (p i) (q i)) ∧
  (∀ i t, T.ls[i]? = some t → HV w t (f i) (g i)) ∧ (∀ i t, T.vs[i]? = some t → HV w t (p i) (q i)) ∧ (Lit.int .i64 T.kd).wf = true ∧ (Lit.int .i64 T.nm).wf = true := by
 cases h with
 | mk a b f g p q hk hn hs hL hM hK cL cK cM rL rM =>
  obtain ⟨oL, capL, rfl, hL1, hL2, hL3⟩ := hL
  obtain ⟨oM, capM, rfl, hM1, hM2, hM3⟩ := hM
  unfold maxLen at hL2 hM2
  exact ⟨a, b, f, g, p, q, oL, oM, capL, capM, rfl, rfl, Nat.le_trans hL1 hL2, Nat.le_trans hM1 hM2, hL3, hM3, hK, hs, hL1, hM1, cL, cK, cM, rL, rM, hk, hn⟩
end Go.Proofs.YteimbjamnfkapaaGreatDoor
