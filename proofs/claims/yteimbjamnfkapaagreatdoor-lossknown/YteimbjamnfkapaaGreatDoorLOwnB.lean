/- path.Set, walked. -/
import Derived.Deep.RegionLaw
import Derived.Deep.MidRow
import Derived.Laws.IdiomCopy
import Derived.Test.YteimbjamnfkapaaGreatDoorLPathDoc
import Derived.Test.YteimbjamnfkapaaGreatDoorLOrders
import Derived.Test.YteimbjamnfkapaaGreatDoorLPathEvery
import Derived.Test.YteimbjamnfkapaaGreatDoorLPathFind
import Derived.Deep.RegionLawGrows
import Derived.ArgAppend
import Derived.Lib.AppendZerosOnto
import Derived.Lib.AppendZeros
import Derived.Test.YteimbjamnfkapaaGreatDoorLMathFd
import Derived.Test.YteimbjamnfkapaaGreatDoorLFlA
import Derived.Test.YteimbjamnfkapaaGreatDoorLVSameT
import Derived.Test.YteimbjamnfkapaaGreatDoorLVPlus
import Derived.Test.YteimbjamnfkapaaGreatDoorLMathDecAll
import Derived.Test.YteimbjamnfkapaaGreatDoorLVBase
/- Plain mathematics of trees and all their paths: each leads to a node; what is set at one stays out of the others' way. -/
/- Plain mathematics: a cell for each value, a value for each cell. -/
/- slices.Delete of one element, in place. -/
/- A part of a node taken away: what then lies in memory. -/
/- path.remove, walked. -/
/- path.remove, walked: the walk. -/
/- path.Drop, walked. -/
namespace Go.Proofs.YteimbjamnfkapaaGreatDoor
open Go.RowKit
structure Moved (w w' : World) (b o m k : Nat) : Prop where
 below : ∀ j,j < o → w'.cell? ⟨b,j,none⟩ = w.cell? ⟨b,j,none⟩
 moved : ∀ j,j < m → w'.cell? ⟨b,o + j,none⟩ = w.cell? ⟨b,o + k + j,none⟩
 far : ∀ x,x < w.heap.size → x ≠ b → w'.heap[x]? = w.heap[x]?
 bel : ∀ B,B ≤ b → Below B w w'
 size : w'.heap.size = w.heap.size
theorem Tryz.infoVal : (Tryz.prog.info? 29).map (fun i => (i.zero,i.size,i.bytes)) = some (some (.agg #[.int .i64 0,.int .i64 0,.string ⟨#[]⟩,.slice none 0 0,.slice none 0 0]),5,80) := by kernel_rfl
theorem LF.ls {w : World} {lo hi : Nat} {L : List VT} {x : Value} (h : LF w lo hi L x) : LS w (fun k => lo ≤ k ∧ k < hi) L x := by
 obtain ⟨b,l,f,g,h1,h2,h3,h4,h5⟩ := h
 refine ⟨⟨b,0,none⟩,f,g,h1.of,fun h0 => ?_,h4,fun i t ht => ?_⟩
 ·have e1 := h2 h0; have e2 := h3 0 _ (Nat.zero_le _) (Nat.le_refl L.length)
  show lo ≤ b ∧ b < hi; omega
 ·have hi := lt_of_some ht
  have e1 := h2 (by omega); have e2 := h3 0 i (Nat.zero_le _) (by omega); have e3 := h3 (i + 1) _ hi (Nat.le_refl _)
  exact (h5 i t ht).hs.onto (fun _ _ => rfl) (fun k hk => by omega)
theorem MS.onto {w w' : World} {S S' : Nat → Prop} {K : List ByteArray} {V : List VT} {y : Value} (h : MS w S K V y) (hb : ∀ k,S k → w'.heap[k]? = w.heap[k]?) (hS : ∀ k,S k → S' k) : MS w' S' K V y := by
 obtain ⟨b,p,q,h1,hK,h2,hc,h3,h4⟩ := h
 refine ⟨b,p,q,h1,hK,fun h => hS _ (h2 h),fun i u h => ⟨(World.cell?_of_block (w := w) ?_).trans (hc i u h).1,(hc i u h).2⟩,fun i t h => (h3 i t h).eqs ?_,fun i t h => (h4 i t h).onto hb hS⟩
 ·rw [addr_block]; exact hb _ (h2 (by have := lt_of_some h; omega))
 ·rw [show (nx (b.add (i * 6))).block = (b.add (i * 6)).block from rfl,addr_block]; exact hb _ (h2 (by have := lt_of_some h; omega))
def delT (T : VT) (s : PStep) (i : Nat) : VT := match T with
 | .mk k n st L K V => if s.place = true then .mk k n st (L.eraseIdx i) K V else .mk k n st L (K.eraseIdx i) (V.eraseIdx i)
theorem addr_is {a : Addr} (h : a.spot = none) : a = ⟨a.block,a.off,none⟩ := by cases a; simp at h; simp [h]
theorem Hole.ablock {w : World} {lo hi : Nat} {B : Addr} {T0 : VT} {p : List PStep} {a : Addr} {U : VT} {x y : Value} {la ha : Nat} (h : Hole w lo hi B T0 p a U x y la ha) (hlo : lo ≤ B.block) (hBs : B.block < w.heap.size) (hhi : hi ≤ w.heap.size) : lo ≤ a.block ∧ a.block < w.heap.size := by
 rcases h.at_ with e | e
 ·rw [e]; exact ⟨hlo,hBs⟩
 ·exact ⟨e.1,by omega⟩
end Go.Proofs.YteimbjamnfkapaaGreatDoor
namespace Go.Proofs.YteimbjamnfkapaaGreatDoor
open Go.RowKit
theorem Hole.onto {w w' : World} {lo hi : Nat} {B : Addr} {T0 : VT} {p : List PStep} {a : Addr} {U : VT} {x y : Value} {la ha : Nat} (h : Hole w lo hi B T0 p a U x y la ha) (hlo : lo ≤ B.block) (hBs : B.block < w.heap.size) (hhi : hi ≤ w.heap.size) (hb : Below w.heap.size w w') : Hole w' lo hi B T0 p a U x y la ha := by
 have hab := h.ablock hlo hBs hhi
 have hin := h.inn
 refine ⟨h.node.onto hb,h.tree.onto (fun k h1 h2 => hb.block k (by omega)),h.get,h.inn,h.out,h.at_,h.plain,fun o => (hb.frozen (p := ⟨a.block,o,none⟩) hab.2).trans (h.soft o),fun w2 S T' x' y' hk hS hn hs => h.back w2 S T' x' y' ⟨fun k h1 h2 h3 h4 => (hk.far k h1 h2 h3 h4).trans (hb.block k (by omega)),fun hne => (hk.root hne).trans (hb.block _ hBs),fun o ho => (hk.near o ho).trans (hb.cell hab.2)⟩ hS hn hs⟩
def QH (w : World) (lo hi : Nat) (B : Addr) (T0 : VT) (p : List PStep) (a : Addr) (U : VT) (x y : Value) : Prop := (∃ la ha,Hole w lo hi B T0 p a U x y la ha) ∧ szT U ≤ 1000000
def dropP (T : VT) (ps : List PStep) : Option VT := match ps.getLast? with
 | none => none
 | some s => match getP T ps.dropLast with
  | none => none
  | some U => match idxT U s with
   | none => none
   | some i => some (replP T ps.dropLast (delT U s i))
def eN (o : Option VT) : Int := match o with
 | none => 9
 | some _ => 0
end Go.Proofs.YteimbjamnfkapaaGreatDoor
/- path.put, walked: where something stands already. -/
/- path.put, walked: where nothing can be put. -/
/- A list with one part more: what then lies in memory. -/
/- path.put, walked: behind a list's last part. -/
namespace Go.Proofs.YteimbjamnfkapaaGreatDoor
open Go.RowKit
theorem put5_at {w : World} {a : Addr} {T : VT} {x y : Value} (h : Node w a T x y) (hs : a.spot = none) (T' : VT) (X Y : Value) : Node (put5 w a.block a.off (.int .i64 T'.kd) (.int .i64 T'.nm) (.string T'.st) X Y) a T' X Y := by
 obtain ⟨d0,d1,d2,d3,d4⟩ := h
 have ha := addr_is hs
 generalize a.block = b at *
 generalize a.off = o at *
 subst ha
 unfold put5
 refine ⟨?_,?_,?_,?_,?_⟩
 ·show World.cell? _ ⟨b,o,none⟩ = _
  rw [set_other _ _ _ _ _ _ (.inr (by omega)),set_other _ _ _ _ _ _ (.inr (by omega)),set_other _ _ _ _ _ _ (.inr (by omega)),set_other _ _ _ _ _ _ (.inr (by omega))]
  exact World.cell?_setCell_same _ _ _ d0
 ·show World.cell? _ ⟨b,o + 1,none⟩ = _
  rw [set_other _ _ _ _ _ _ (.inr (by omega)),set_other _ _ _ _ _ _ (.inr (by omega)),set_other _ _ _ _ _ _ (.inr (by omega))]
  exact World.cell?_setCell_same _ _ _ ((set_other _ _ _ _ _ _ (.inr (by omega))).trans d1)
 ·show World.cell? _ ⟨b,o + 2,none⟩ = _
  rw [set_other _ _ _ _ _ _ (.inr (by omega)),set_other _ _ _ _ _ _ (.inr (by omega))]
  exact World.cell?_setCell_same _ _ _ (by rw [set_other _ _ _ _ _ _ (.inr (by omega)),set_other _ _ _ _ _ _ (.inr (by omega))]; exact d2)
 ·show World.cell? _ ⟨b,o + 3,none⟩ = _
  rw [set_other _ _ _ _ _ _ (.inr (by omega))]
  exact World.cell?_setCell_same _ _ _ (by rw [set_other _ _ _ _ _ _ (.inr (by omega)),set_other _ _ _ _ _ _ (.inr (by omega)),set_other _ _ _ _ _ _ (.inr (by omega))]; exact d3)
 ·show World.cell? _ ⟨b,o + 4,none⟩ = _
  exact World.cell?_setCell_same _ _ _ (by rw [set_other _ _ _ _ _ _ (.inr (by omega)),set_other _ _ _ _ _ _ (.inr (by omega)),set_other _ _ _ _ _ _ (.inr (by omega)),set_other _ _ _ _ _ _ (.inr (by omega))]; exact d4)
theorem put5_bel {B : Nat} {a w : World} {b o : Nat} {v0 v1 v2 v3 v4 : Value} (h : Below B a w) (hb : B ≤ b) : Below B a (put5 w b o v0 v1 v2 v3 v4) :=
 ((((h.setCell (p := ⟨b,o,none⟩) hb _).setCell (p := ⟨b,o + 1,none⟩) hb _).setCell (p := ⟨b,o + 2,none⟩) hb _).setCell (p := ⟨b,o + 3,none⟩) hb _).setCell (p := ⟨b,o + 4,none⟩) hb _
theorem Hole.put {w : World} {lo hi : Nat} {B : Addr} {T0 : VT} {p : List PStep} {a : Addr} {U : VT} {x y : Value} {la ha : Nat} (h : Hole w lo hi B T0 p a U x y la ha) (hlo : lo ≤ B.block) (hBs : B.block < w.heap.size) (hhi : hi ≤ w.heap.size) {Tx : VT} {X Y : Value} {Sx : Nat → Prop} (hx : HS w Sx Tx X Y) (hSx : ∀ k,Sx k → lo ≤ k ∧ k < w.heap.size ∧ k ≠ a.block) :
  (∃ X' Y',Node (put5 w a.block a.off (.int .i64 Tx.kd) (.int .i64 Tx.nm) (.string Tx.st) X Y) B (replP T0 p Tx) X' Y' ∧ HS (put5 w a.block a.off (.int .i64 Tx.kd) (.int .i64 Tx.nm) (.string Tx.st) X Y) (fun k => lo ≤ k ∧ k < w.heap.size) (replP T0 p Tx) X' Y') ∧ Below lo w (put5 w a.block a.off (.int .i64 Tx.kd) (.int .i64 Tx.nm) (.string Tx.st) X Y) := by
 have hab := h.ablock hlo hBs hhi
 refine ⟨h.back _ _ Tx X Y ⟨fun k _ _ h3 _ => put5_heap _ _ _ _ _ _ _ _ _ h3,fun hne => put5_heap _ _ _ _ _ _ _ _ _ hne,fun o ho => put5_other _ _ _ _ _ _ _ _ _ (by omega)⟩ (fun k h1 h2 => ⟨h1,by omega⟩) (put5_at h.node h.plain Tx X Y) (hx.onto (fun k hk => put5_heap _ _ _ _ _ _ _ _ _ (hSx k hk).2.2) (fun k hk => ⟨(hSx k hk).1,(hSx k hk).2.1⟩)),put5_bel (Below.refl _ _) hab.1⟩
end Go.Proofs.YteimbjamnfkapaaGreatDoor
namespace Go.Proofs.YteimbjamnfkapaaGreatDoor
open Go.RowKit
def addT (T x : VT) : VT := match T with
 | .mk k n st L K V => .mk k n st (L ++ [x]) K V
structure MoreL (w9 w' : World) (g n : Nat) (a : Addr) (v : Value) (Tx : VT) (X Y : Value) : Prop where
 row : ∀ j,j < n * 5 → w'.cell? ⟨g,j,none⟩ = w9.cell? ⟨g,j,none⟩
 last : Node w' ⟨g,n * 5,none⟩ Tx X Y
 far : ∀ x,x ≠ g → x ≠ a.block → w'.heap[x]? = w9.heap[x]?
 acell : ∀ o,o ≠ a.off + 3 → w'.cell? ⟨a.block,o,none⟩ = w9.cell? ⟨a.block,o,none⟩
 anew : w'.cell? ⟨a.block,a.off + 3,none⟩ = some v
 size : w'.heap.size = w9.heap.size
 bel : ∀ B,B ≤ g → B ≤ a.block → Below B w9 w'
end Go.Proofs.YteimbjamnfkapaaGreatDoor
namespace Go.Proofs.YteimbjamnfkapaaGreatDoor
open Go.RowKit
end Go.Proofs.YteimbjamnfkapaaGreatDoor
/- path.insert, walked: where a pair goes. -/
/- slices.Insert of one pair into a slice without room. -/
/- slices.Insert of one pair into a slice without room: ahead of others. -/
/- path.insert, walked. -/
/- A pair more in a map: what then lies in memory. -/
/- path.put, walked: a pair more. -/
/- path.put, walked: in every case. -/
namespace Go.Proofs.YteimbjamnfkapaaGreatDoor
open Go.RowKit
end Go.Proofs.YteimbjamnfkapaaGreatDoor
namespace Go.Proofs.YteimbjamnfkapaaGreatDoor
open Go.RowKit
def NewRow (w w' : World) (n : Nat) (v : Value) (xs : List Value) : Prop := ∃ g cap,v = .slice (some ⟨g,0,none⟩) n cap ∧ w.heap.size ≤ g ∧ g < w'.heap.size ∧ n ≤ cap ∧ cap ≤ maxLen ∧ ∀ j u,xs[j]? = some u → w'.cell? ⟨g,j,none⟩ = some u
def insI (key : ByteArray) (K : List ByteArray) : Nat := (firstI (fun c => ltB key.data.toList c.data.toList) K).getD K.length
def insT (T : VT) (key : ByteArray) (x : VT) : VT := match T with
 | .mk k n st L K V => .mk k n st L (K.take (insI key K) ++ key :: K.drop (insI key K)) (V.take (insI key K) ++ x :: V.drop (insI key K))
def putT (U : VT) (s : PStep) (x : VT) : Option VT := match idxT U s with
 | some i => some (repT U s i x)
 | none => if s.place = true then (if U.kd = 5 ∧ s.at_ = U.ls.length then some (addT U x) else none) else (if U.kd = 6 then some (insT U s.key x) else none)
def setP (T : VT) (ps : List PStep) (x : VT) : Option VT := match ps.getLast? with
 | none => some x
 | some s => match getP T ps.dropLast with
  | none => none
  | some U => (putT U s x).map (replP T ps.dropLast)
mutual
def wfT : VT → Prop
 | .mk _ _ _ L K V => K.length = V.length ∧ wfL L ∧ wfL V
def wfL : List VT → Prop
 | [] => True
 | t :: r => wfT t ∧ wfL r
end
theorem wfT_eq (T : VT) : wfT T ↔ (T.ks.length = T.vs.length ∧ wfL T.ls ∧ wfL T.vs) := by cases T; rw [wfT]; rfl
theorem wfL_get : ∀ (L : List VT),wfL L ↔ ∀ (i : Nat) (t : VT),L[i]? = some t → wfT t
 | [] => by simp [wfL]
 | a :: r => by
  simp only [wfL]
  rw [wfL_get r]
  constructor
  ·rintro ⟨h1,h2⟩ i t hi
   cases i with
   | zero => simp at hi; subst hi; exact h1
   | succ i => simp at hi; exact h2 i t hi
  ·intro g
   exact ⟨g 0 a rfl,fun i t hi => g (i + 1) t (by simpa using hi)⟩
theorem hv_wfT {w : World} : ∀ (N : Nat) {T : VT} {x y : Value},szT T ≤ N → HV w T x y → wfT T
 | 0,T,x,y,hN,h => by have := szT_pos T; omega
 | N + 1,T,x,y,hN,h => by
  obtain ⟨a,b,f,g,p,q,oL,oM,cL,cM,-,-,-,-,-,-,hK,-,-,-,-,-,-,rL,rM,-⟩ := h.parts
  rw [wfT_eq]
  refine ⟨hK,(wfL_get _).2 fun i t ht => ?_,(wfL_get _).2 fun i t ht => ?_⟩
  ·have := szT_ls T i t ht
   exact hv_wfT N (by omega) (rL i t ht)
  ·have := szT_vs T i t ht
   exact hv_wfT N (by omega) (rM i t ht)
def Apart (K : List ByteArray) : Prop := ∀ (i j : Nat) (c : ByteArray),K[i]? = some c → K[j]? = some c → i = j
theorem keys_lt {K : List ByteArray} (h : keysB K = true) : ∀ (d i : Nat) (a b : ByteArray),K[i]? = some a → K[i + d + 1]? = some b → ltB a.data.toList b.data.toList = true := by
 unfold keysB at h
 rw [decide_eq_true_eq] at h
 intro d
 induction d with
 | zero =>
  intro i a b ha hb
  have := (h (i + 1) (lt_of_some hb)).2 (by omega)
  rw [Nat.add_sub_cancel,getD_some ha,getD_some hb] at this
  exact this
 | succ d ih =>
  intro i a b ha hb
  have hl : i + d + 1 < K.length := by have := lt_of_some hb; omega
  have h1 := ih i a K[i + d + 1] ha (List.getElem?_eq_getElem hl)
  have h2 := (h (i + (d + 1) + 1) (lt_of_some hb)).2 (by omega)
  rw [Nat.add_sub_cancel,getD_some hb,getD_some (show K[i + (d + 1)]? = some K[i + d + 1] from List.getElem?_eq_getElem hl)] at h2
  exact ltB_trans _ _ _ h1 h2
theorem keys_apart {K : List ByteArray} (h : keysB K = true) : Apart K := by
 intro i j c hi hj
 rcases Nat.lt_trichotomy i j with hlt | rfl | hlt
 ·have := keys_lt h (j - i - 1) i c c hi (by rw [show i + (j - i - 1) + 1 = j by omega]; exact hj)
  rw [ltB_irr] at this; cases this
 ·rfl
 ·have := keys_lt h (i - j - 1) j c c hj (by rw [show j + (i - j - 1) + 1 = i by omega]; exact hi)
  rw [ltB_irr] at this; cases this
theorem first_key {K : List ByteArray} (h : Apart K) {i : Nat} {c : ByteArray} (hc : K[i]? = some c) : firstI (keyIs c) K = some i := by
 refine firstI_at hc (by unfold keyIs; exact decide_eq_true rfl) (fun j d hj hd => ?_)
 unfold keyIs
 rw [decide_eq_false_iff_not]
 intro e
 have := ba_eq e
 subst this
 have := h j i d hd hc
 omega
def Fair (T : VT) : Prop := T.kd = 6 → Apart T.ks
theorem plain_keys {T : VT} (h : plainT T = true) : Fair T := by
 intro h6
 rw [plainT_eq,Bool.and_eq_true,Bool.and_eq_true] at h
 have hn := h.1.1
 unfold nodeB nodeC at hn
 simp only [h6,show ¬ (6 : Int) = 0 by decide,show ¬ (6 : Int) = 1 by decide,show ¬ (6 : Int) = 2 by decide,show ¬ (6 : Int) = 3 by decide,show ¬ (6 : Int) = 4 by decide,show ¬ (6 : Int) = 7 by decide,show ¬ (6 : Int) = 5 by decide,if_false,if_true,Bool.and_eq_true] at hn
 exact keys_apart hn.2
theorem plain_ls {T : VT} (h : plainT T = true) {i : Nat} {t : VT} (ht : T.ls[i]? = some t) : plainT t = true := by
 rw [plainT_eq,Bool.and_eq_true,Bool.and_eq_true] at h
 exact (plainL_get _).1 h.1.2 i t ht
theorem plain_vs {T : VT} (h : plainT T = true) {i : Nat} {t : VT} (ht : T.vs[i]? = some t) : plainT t = true := by
 rw [plainT_eq,Bool.and_eq_true,Bool.and_eq_true] at h
 exact (plainL_get _).1 h.2 i t ht
theorem idx_pl {T : VT} (h : T.kd = 5) {j : Nat} (hj : j < T.ls.length) : idxT T (plS j) = some j := by
 unfold idxT plS
 rw [if_pos rfl,if_pos ⟨h,by simp,by simpa using hj⟩]; simp
theorem idx_ky {T : VT} (h : T.kd = 6) (hf : Fair T) {j : Nat} {c : ByteArray} (hc : T.ks[j]? = some c) : idxT T (kyS c) = some j := by
 unfold idxT
 rw [if_neg (show ¬ (kyS c).place = true from Bool.false_ne_true),if_pos h]
 exact first_key (hf h) hc
/-! A part put into another's place. -/
end Go.Proofs.YteimbjamnfkapaaGreatDoor
namespace Go.Proofs.YteimbjamnfkapaaGreatDoor
open Go.RowKit
def cnmT (l : List UInt8) : VT := if intB l = true then leafT 2 (intV l) ⟨#[]⟩ else leafT 3 0 (mkS l)
def cwdT (l : List UInt8) : Option VT :=
 if l = [110,117,108,108] then some zeroT else if l = [116,114,117,101] then some (leafT 1 1 ⟨#[]⟩) else if l = [102,97,108,115,101] then some (leafT 1 0 ⟨#[]⟩) else if l = [91,93] then some (leafT 5 0 ⟨#[]⟩) else if l = [123,125] then some (leafT 6 0 ⟨#[]⟩) else none
def celT (l : List UInt8) : VT × Int :=
 if l = [] then (zeroT,9) else match cwdT l with
 | some T => (T,0)
 | none => if numB l = true then (cnmT l,0) else if l.head? = some 64 then (if stampB (mkS l.tail) = true then (leafT 7 0 (mkS l.tail),0) else (zeroT,4))
  else if l.head? = some 39 then (strR (mkS l.tail),teI (mkS l.tail)) else (strR (mkS l),teI (mkS l))
def cplB (l : List UInt8) : Bool := !l.isEmpty && (cwdT l).isNone && !numB l && !decide (l.head? = some 64) && !decide (l.head? = some 39)
def cstL (l : List UInt8) : List UInt8 := if cplB l = true then l else 39 :: l
def celS (k n : Int) (s : ByteArray) : List UInt8 :=
 if k = 1 then (if n = 1 then [116,114,117,101] else [102,97,108,115,101]) else if k = 2 then txt n else if k = 3 then s.data.toList else if k = 4 then cstL s.data.toList
 else if k = 7 then 64 :: s.data.toList else if k = 5 then [91,93] else if k = 6 then [123,125] else [110,117,108,108]
def celW (T : VT) : List UInt8 := celS T.kd T.nm T.st
def celB (T : VT) : Bool := T.ls.isEmpty && T.vs.isEmpty && mayB 0 1 T
theorem cnum_at {b : UInt8} (l : List UInt8) (h : ¬ b.toNat = 45) (hd : isD b = false) : numB (b :: l) = false := by
 have e : pWok (b :: l) = false := by
  unfold pWok pW pU pNeg
  simp [h,hd]
 unfold numB pOk
 rw [e]; rfl
theorem cwd_is {l : List UInt8} {T : VT} (h : cwdT l = some T) : (l = [110,117,108,108] ∧ T = zeroT) ∨ (l = [116,114,117,101] ∧ T = leafT 1 1 ⟨#[]⟩) ∨ (l = [102,97,108,115,101] ∧ T = leafT 1 0 ⟨#[]⟩) ∨ (l = [91,93] ∧ T = leafT 5 0 ⟨#[]⟩) ∨ (l = [123,125] ∧ T = leafT 6 0 ⟨#[]⟩) := by
 unfold cwdT at h
 by_cases h1 : l = [110,117,108,108]
 ·rw [if_pos h1] at h; exact .inl ⟨h1,(Option.some.inj h).symm⟩
 rw [if_neg h1] at h
 by_cases h2 : l = [116,114,117,101]
 ·rw [if_pos h2] at h; exact .inr (.inl ⟨h2,(Option.some.inj h).symm⟩)
 rw [if_neg h2] at h
 by_cases h3 : l = [102,97,108,115,101]
 ·rw [if_pos h3] at h; exact .inr (.inr (.inl ⟨h3,(Option.some.inj h).symm⟩))
 rw [if_neg h3] at h
 by_cases h4 : l = [91,93]
 ·rw [if_pos h4] at h; exact .inr (.inr (.inr (.inl ⟨h4,(Option.some.inj h).symm⟩)))
 rw [if_neg h4] at h
 by_cases h5 : l = [123,125]
 ·rw [if_pos h5] at h; exact .inr (.inr (.inr (.inr ⟨h5,(Option.some.inj h).symm⟩)))
 rw [if_neg h5] at h; cases h
theorem cwd_num {l : List UInt8} (h : numB l = true) : cwdT l = none := by
 cases hc : cwdT l with
 | none => rfl
 | some T =>
  rcases cwd_is hc with ⟨rfl,-⟩ | ⟨rfl,-⟩ | ⟨rfl,-⟩ | ⟨rfl,-⟩ | ⟨rfl,-⟩ <;>
   (rw [cnum_at _ (by decide) (by decide)] at h; cases h)
theorem cwd_mark (b : UInt8) (l : List UInt8) (h : b = 39 ∨ b = 64) : cwdT (b :: l) = none := by
 unfold cwdT
 rcases h with rfl | rfl <;> simp
theorem cel_none {l : List UInt8} (h0 : ¬ l = []) (hw : cwdT l = none) : celT l = if numB l = true then (cnmT l,0) else if l.head? = some 64 then (if stampB (mkS l.tail) = true then (leafT 7 0 (mkS l.tail),0) else (zeroT,4))
  else if l.head? = some 39 then (strR (mkS l.tail),teI (mkS l.tail)) else (strR (mkS l),teI (mkS l)) := by
 unfold celT
 rw [if_neg h0,hw]
theorem cel_word {l : List UInt8} {T : VT} (hw : cwdT l = some T) : celT l = (T,0) := by
 have h0 : ¬ l = [] := by
  rcases cwd_is hw with ⟨rfl,-⟩ | ⟨rfl,-⟩ | ⟨rfl,-⟩ | ⟨rfl,-⟩ | ⟨rfl,-⟩ <;> simp
 unfold celT
 rw [if_neg h0,hw]
theorem cel_num {l : List UInt8} (h : numB l = true) : celT l = (cnmT l,0) := by
 rw [cel_none (num_ne l h) (cwd_num h),if_pos h]
theorem cel_at (l : List UInt8) : celT (64 :: l) = if stampB (mkS l) = true then (leafT 7 0 (mkS l),0) else (zeroT,4) := by
 rw [cel_none (by simp) (cwd_mark _ _ (.inr rfl)),cnum_at _ (by decide) (by decide),if_neg (by decide),if_pos (by rfl)]
 rfl
theorem cel_mark (l : List UInt8) : celT (39 :: l) = (strR (mkS l),teI (mkS l)) := by
 rw [cel_none (by simp) (cwd_mark _ _ (.inl rfl)),cnum_at _ (by decide) (by decide),if_neg (by decide),if_neg (by simp),if_pos (by rfl)]
 rfl
theorem cpl_parts {l : List UInt8} (h : cplB l = true) : ¬ l = [] ∧ cwdT l = none ∧ numB l = false ∧ ¬ l.head? = some 64 ∧ ¬ l.head? = some 39 := by
 unfold cplB at h
 simp only [Bool.and_eq_true,Bool.not_eq_true',decide_eq_false_iff_not,Option.isNone_iff_eq_none] at h
 obtain ⟨⟨⟨⟨h1,h2⟩,h3⟩,h4⟩,h5⟩ := h
 exact ⟨by intro e; rw [e] at h1; simp at h1,h2,h3,h4,h5⟩
theorem cpl_of {l : List UInt8} (h0 : ¬ l = []) (h1 : cwdT l = none) (h2 : numB l = false) (h3 : ¬ l.head? = some 64) (h4 : ¬ l.head? = some 39) : cplB l = true := by
 unfold cplB
 rw [h1,h2,decide_eq_false h3,decide_eq_false h4]
 cases l with
 | nil => exact absurd rfl h0
 | cons a r => rfl
theorem cel_plain {l : List UInt8} (h : cplB l = true) : celT l = (strR (mkS l),teI (mkS l)) := by
 obtain ⟨h0,h1,h2,h3,h4⟩ := cpl_parts h
 rw [cel_none h0 h1,h2,if_neg (by decide),if_neg h3,if_neg h4]
theorem str_r {s : ByteArray} (h : teI s = 0) : strR s = leafT 4 0 s := by unfold strR; rw [if_pos h]
theorem cel_not {l : List UInt8} (h : cplB l = false) : ¬ ((celT l).2 = 0 ∧ (celT l).1 = leafT 4 0 (mkS l)) := by
 rintro ⟨h1,h2⟩
 by_cases h0 : l = []
 ·subst h0; unfold celT at h1; simp at h1
 cases hw : cwdT l with
 | some T =>
  rw [cel_word hw] at h2
  have h2 : T = leafT 4 0 (mkS l) := h2
  rcases cwd_is hw with ⟨-,e⟩ | ⟨-,e⟩ | ⟨-,e⟩ | ⟨-,e⟩ | ⟨-,e⟩ <;>
   (rw [e] at h2; have := congrArg VT.kd h2; simp [zeroT,leafT,VT.kd] at this)
 | none =>
  cases hn : numB l with
  | true =>
   rw [cel_num hn] at h2
   have h2 : cnmT l = leafT 4 0 (mkS l) := h2
   have := congrArg VT.kd h2
   unfold cnmT at this
   cases hi : intB l <;> simp [hi,leafT,VT.kd] at this
  | false =>
   by_cases h3 : l.head? = some 64
   ·obtain ⟨a,r,rfl⟩ : ∃ a r,l = a :: r := by
     cases l with
     | nil => exact absurd rfl h0
     | cons a r => exact ⟨a,r,rfl⟩
    have ha : a = 64 := by simpa using h3
    subst ha
    rw [cel_at] at h1 h2
    cases hs : stampB (mkS r) with
    | true =>
     rw [hs,if_pos rfl] at h2
     have := congrArg VT.kd h2
     simp [leafT,VT.kd] at this
    | false => rw [hs,if_neg (by decide)] at h1; simp at h1
   ·by_cases h4 : l.head? = some 39
    ·obtain ⟨a,r,rfl⟩ : ∃ a r,l = a :: r := by
      cases l with
      | nil => exact absurd rfl h0
      | cons a r => exact ⟨a,r,rfl⟩
     have ha : a = 39 := by simpa using h4
     subst ha
     rw [cel_mark] at h1 h2
     have h1 : teI (mkS r) = 0 := h1
     have h2 : strR (mkS r) = leafT 4 0 (mkS (39 :: r)) := h2
     rw [str_r h1] at h2
     have := congrArg (fun T => T.st.data.toList.length) h2
     simp [leafT,VT.st,mkS_list] at this
    ·rw [cpl_of h0 hw hn h3 h4] at h; cases h
theorem leaf_of {T : VT} (h : celB T = true) (hk : T.ks.length = T.vs.length) : T = leafT T.kd T.nm T.st ∧ nodeB T = true := by
 unfold celB at h
 simp only [Bool.and_eq_true,List.isEmpty_iff] at h
 obtain ⟨⟨h1,h2⟩,h3⟩ := h
 cases T with
 | mk k n s L K V =>
  simp only [VT.ls,VT.vs,VT.ks,VT.kd,VT.nm,VT.st] at *
  subst h1 h2
  have hk : K = [] := List.length_eq_zero_iff.1 hk
  subst hk
  exact ⟨rfl,(good_node h3).2.2⟩
end Go.Proofs.YteimbjamnfkapaaGreatDoor
/- Changes that keep to one block among the elder ones. -/
namespace Go.Proofs.YteimbjamnfkapaaGreatDoor
open Go.RowKit
theorem set_grown (w : World) (b o : Nat) (u : Value) : w.grownBy (w.setCell ⟨b,o,none⟩ u) (some b) := ⟨rfl,rfl,rfl,by simp,fun k _ hk => Below.heap_setCell _ _ _ _ (fun e => hk (by rw [e]))⟩
def Own (b : Nat) (w w' : World) : Prop := w.grownBy w' (some b)
theorem Own.of {b : Nat} {w w' : World} (h : Below w.heap.size w w') : Own b w w' := ⟨h.os,h.tape,h.output,h.size,fun k hk _ => h.block k hk⟩
theorem Own.trans {b : Nat} {w w1 w2 : World} (h : Own b w w1) (k : Own b w1 w2) : Own b w w2 :=
 ⟨k.os.trans h.os,k.tape.trans h.tape,k.output.trans h.output,Nat.le_trans h.size k.size,fun i hi hn => (k.block i (Nat.lt_of_lt_of_le hi h.size) hn).trans (h.block i hi hn)⟩
theorem Own.refl (b : Nat) (w : World) : Own b w w := ⟨rfl,rfl,rfl,Nat.le_refl _,fun _ _ _ => rfl⟩
theorem Own.set {b : Nat} {w w1 : World} (h : Own b w w1) (o : Nat) (u : Value) : Own b w (w1.setCell ⟨b,o,none⟩ u) :=
 h.trans (set_grown w1 b o u)
theorem Own.cell {b : Nat} {w w' : World} (h : Own b w w') {a : Addr} {u : Value} (hc : w.cell? a = some u) (hn : ¬ a.block = b) : w'.cell? a = some u := by
 rw [World.cell?_of_block (w := w) (h.block a.block (World.block_lt_of_cell? w a hc) (fun e => hn (by injection e with e)))]; exact hc
end Go.Proofs.YteimbjamnfkapaaGreatDoor
