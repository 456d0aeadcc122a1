/- Trees that are alike. -/
import Derived.Test.YtkhjahpkbjafaaaGreatDoorTVBase
import Derived.Deep.LoopGhost
import Derived.Deep.RegionHeld
import Derived.Test.YtkhjahpkbjafaaaGreatDoorTMathDecAll
import Derived.Test.YtkhjahpkbjafaaaGreatDoorTBaseDec
/- value.copyList, walked over what Copy does to each part. -/
/- value.copyPairs, walked over what Copy does to each part. -/
/- value.Copy, walked: another tree, the same, in blocks of its own. -/
namespace Go.Proofs.YtkhjahpkbjafaaaGreatDoor
open Go.RowKit

/-- what Copy does to a tree -/
def CopyOk (t : VT) : Prop := ∀ (x y : Value) (w : World), HV w t x y → Calls Tryz.prog 144 #[vv t x y] w fun e w' => ∃ X Y, e = .returned (vv t X Y) ∧ HF w' w.heap.size w'.heap.size t X Y ∧ Below w.heap.size w w'
/-- what has been copied so far -/
def Part (w : World) (b : Nat) (L : List VT) (j : Nat) : Prop := ∃ (l : Nat → Nat) (f g : Nat → Value), b < l 0 ∧ l j ≤ w.heap.size ∧ (∀ i k, i ≤ k → k ≤ j → l i ≤ l k) ∧
  (∀ i t, i < j → L[i]? = some t → Node w ⟨b, i * 5, none⟩ t (f i) (g i)) ∧ (∀ i t, i < j → L[i]? = some t → HF w (l i) (l (i + 1)) t (f i) (g i))
end Go.Proofs.YtkhjahpkbjafaaaGreatDoor
namespace Go.Proofs.YtkhjahpkbjafaaaGreatDoor
open Go.RowKit

def put6 (w : World) (b o : Nat) (v0 v1 v2 v3 v4 v5 : Value) : World := (((((w.setCell ⟨b, o, none⟩ v0).setCell ⟨b, o + 1, none⟩ v1).setCell ⟨b, o + 2, none⟩ v2).setCell ⟨b, o + 3, none⟩ v3).setCell ⟨b, o + 4, none⟩ v4).setCell ⟨b, o + 5, none⟩ v5
/-- the pairs that have been copied so far -/
def PartM (w : World) (b : Nat) (K : List ByteArray) (V : List VT) (j : Nat) : Prop := ∃ (l : Nat → Nat) (f g : Nat → Value), b < l 0 ∧ l j ≤ w.heap.size ∧ (∀ i k, i ≤ k → k ≤ j → l i ≤ l k) ∧
  (∀ i u, i < j → K[i]? = some u → w.cell? ⟨b, i * 6, none⟩ = some (.string u)) ∧
  (∀ i t, i < j → V[i]? = some t → Node w ⟨b, i * 6 + 1, none⟩ t (f i) (g i)) ∧ (∀ i t, i < j → V[i]? = some t → HF w (l i) (l (i + 1)) t (f i) (g i))
/-- a pair's box -/
def PBox (W : World) (B : Nat) (c : ByteArray) (t : VT) (x y : Value) (w' : World) : Prop := w'.cell? ⟨B, 0, none⟩ = some (.string c) ∧ w'.cell? ⟨B, 1, none⟩ = some (.int .i64 t.kd) ∧ w'.cell? ⟨B, 2, none⟩ = some (.int .i64 t.nm) ∧ w'.cell? ⟨B, 3, none⟩ = some (.string t.st) ∧ w'.cell? ⟨B, 4, none⟩ = some x ∧ w'.cell? ⟨B, 5, none⟩ = some y ∧ Below W.heap.size W w'
end Go.Proofs.YtkhjahpkbjafaaaGreatDoor
namespace Go.Proofs.YtkhjahpkbjafaaaGreatDoor
open Go.RowKit

end Go.Proofs.YtkhjahpkbjafaaaGreatDoor
namespace Go.Proofs.YtkhjahpkbjafaaaGreatDoor
open Go.RowKit

/-- two texts alike; loosely: two numbers alike -/
def strB (lo : Bool) (k : Int) (s t : ByteArray) : Bool := decide (s = t) || (lo && decide (k = 3) && decide (cmpI s.data.toList t.data.toList = 0))
mutual
def sameT (lo : Bool) : VT → VT → Bool
  | .mk k n s L K V, T => decide (k = T.kd ∧ n = T.nm ∧ L.length = T.ls.length ∧ V.length = T.vs.length) && strB lo k s T.st && sameL lo L T.ls && decide (K = T.ks) && sameL lo V T.vs
def sameL (lo : Bool) : List VT → List VT → Bool
  | [], _ => true
  | _ :: _, [] => false
  | t :: r, t' :: r' => sameT lo t t' && sameL lo r r'
end
theorem HV.parts {w : World} {T : VT} {x y : Value} (h : HV w T x y) : ∃ (a b : Addr) (f g p q : Nat → Value) (oL oM : Option Addr) (cL cM : Nat),
    x = .slice oL T.ls.length cL ∧ y = .slice oM T.vs.length cM ∧ T.ls.length ≤ 2 ^ 63 - 1 ∧ T.vs.length ≤ 2 ^ 63 - 1 ∧ (0 < T.ls.length → oL = some a) ∧ (0 < T.vs.length → oM = some b) ∧ T.ks.length = T.vs.length ∧ T.st.size ≤ maxLen ∧
    T.ls.length ≤ cL ∧ T.vs.length ≤ cM ∧
    (∀ i t, T.ls[i]? = some t → Node w (a.add (i * 5)) t (f i) (g i)) ∧ (∀ i u, T.ks[i]? = some u → w.cell? (b.add (i * 6)) = some (.string u) ∧ u.size ≤ maxLen) ∧ (∀ i t, T.vs[i]? = some t → Node w (nx (b.add (i * 6))) t (p i) (q i)) ∧
    (∀ i t, T.ls[i]? = some t → HV w t (f i) (g i)) ∧ (∀ i t, T.vs[i]? = some t → HV w t (p i) (q i)) ∧ (Lit.int .i64 T.kd).wf = true ∧ (Lit.int .i64 T.nm).wf = true := by
  cases h with
  | mk a b f g p q hk hn hs hL hM hK cL cK cM rL rM =>
    obtain ⟨oL, capL, rfl, hL1, hL2, hL3⟩ := hL
    obtain ⟨oM, capM, rfl, hM1, hM2, hM3⟩ := hM
    unfold maxLen at hL2 hM2
    exact ⟨a, b, f, g, p, q, oL, oM, capL, capM, rfl, rfl, Nat.le_trans hL1 hL2, Nat.le_trans hM1 hM2, hL3, hM3, hK, hs, hL1, hM1, cL, cK, cM, rL, rM, hk, hn⟩
end Go.Proofs.YtkhjahpkbjafaaaGreatDoor
