/- Keys that rise; pairs: what they take. -/
import Derived.Test.YteimbjamnfkapaaGreatDoorLVBase
import Derived.Test.YteimbjamnfkapaaGreatDoorLVPlus
import Derived.Test.YteimbjamnfkapaaGreatDoorLVTextAll
import Derived.Deep.AppendLies
import Derived.Test.YteimbjamnfkapaaGreatDoorLVCopyAll
import Derived.Test.YteimbjamnfkapaaGreatDoorLPathOne
import Derived.Test.YteimbjamnfkapaaGreatDoorLRefVal5
import Derived.Test.YteimbjamnfkapaaGreatDoorLOrders
import Derived.BigQuiet
namespace Go.Proofs.YteimbjamnfkapaaGreatDoor
open Go.RowKit
def Rising (A : List (ByteArray × VT)) : Prop := ∀ (i j : Nat) (a b : ByteArray × VT),i < j → A[i]? = some a → A[j]? = some b → ltB b.1.data.toList a.1.data.toList = false
theorem add_off (b off i : Nat) : Addr.add ⟨b,off,none⟩ i = ⟨b,off + i,none⟩ := by
 simp only [Addr.add]; split
 ·next h0 => rw [h0]; rfl
 ·rfl
def mapR (A : List (ByteArray × VT)) : VT := if keI (A.map (·.1)) = 0 then .mk 6 0 ⟨#[]⟩ [] (A.map (·.1)) (A.map (·.2)) else zeroT
end Go.Proofs.YteimbjamnfkapaaGreatDoor
/- Values in boxes, pairs and lists just written down. -/
/- Trees that lie in some blocks: what keeps those blocks keeps the tree. -/
/- A fresh box, and what is put into it. -/
namespace Go.Proofs.YteimbjamnfkapaaGreatDoor
open Go.RowKit
def Bx (w : World) (b : Nat) (T : VT) (x y : Value) : Prop := Node w ⟨b,0,none⟩ T x y ∧ HV w T x y
theorem Bx.onto {w w' : World} {b : Nat} {T : VT} {x y : Value} (h : Bx w b T x y) (hb : Below w.heap.size w w') : Bx w' b T x y := ⟨h.1.onto hb,h.2.onto hb⟩
theorem Bx.cells {w : World} {b : Nat} {T : VT} {x y : Value} (h : Bx w b T x y) : w.cell? ⟨b,0,none⟩ = some (.int .i64 T.kd) ∧ w.cell? ⟨b,1,none⟩ = some (.int .i64 T.nm) ∧ w.cell? ⟨b,2,none⟩ = some (.string T.st) ∧ w.cell? ⟨b,3,none⟩ = some x ∧ w.cell? ⟨b,4,none⟩ = some y := by
 have := h.1
 simp only [Node,Nat.zero_add] at this
 exact this
def pc (a : ByteArray × VT × Value × Value) : List Value := [.string a.1,.int .i64 a.2.1.kd,.int .i64 a.2.1.nm,.string a.2.1.st,a.2.2.1,a.2.2.2]
def vc (a : VT × Value × Value) : List Value := [.int .i64 a.1.kd,.int .i64 a.1.nm,.string a.1.st,a.2.1,a.2.2]
theorem flat_at {α : Type} (f : α → List Value) (m : Nat) (hf : ∀ a,(f a).length = m) : ∀ (A : List α) (i c : Nat) (a : α),A[i]? = some a → c < m → (A.flatMap f)[i * m + c]? = (f a)[c]?
 | [],i,c,a,h,_ => by simp at h
 | b :: A,0,c,a,h,hc => by
  simp at h; subst h
  rw [List.flatMap_cons,Nat.zero_mul,Nat.zero_add,List.getElem?_append_left (by rw [hf]; exact hc)]
 | b :: A,i + 1,c,a,h,hc => by
  simp at h
  rw [List.flatMap_cons,List.getElem?_append_right (by rw [hf,Nat.add_mul]; omega),hf,show (i + 1) * m + c - m = i * m + c by rw [Nat.add_mul]; omega]
  exact flat_at f m hf A i c a h hc
end Go.Proofs.YteimbjamnfkapaaGreatDoor
namespace Go.Proofs.YteimbjamnfkapaaGreatDoor
open Go.RowKit
inductive HS (w : World) (S : Nat → Prop) : VT → Value → Value → Prop
 | mk {k n : Int} {s : ByteArray} {L : List VT} {K : List ByteArray} {V : List VT} {x y : Value} (a b : Addr) (f g p q : Nat → Value)
   (hk : (Lit.int .i64 k).wf = true) (hn : (Lit.int .i64 n).wf = true) (hs : s.size ≤ maxLen)
   (hL : SlOf x a L.length) (hM : SlOf y b V.length) (hK : K.length = V.length)
   (iL : 0 < L.length → S a.block) (iM : 0 < V.length → S b.block)
   (cL : ∀ i t,L[i]? = some t → Node w (a.add (i * 5)) t (f i) (g i))
   (cK : ∀ i u,K[i]? = some u → w.cell? (b.add (i * 6)) = some (.string u) ∧ u.size ≤ maxLen)
   (cM : ∀ i t,V[i]? = some t → Node w (nx (b.add (i * 6))) t (p i) (q i))
   (rL : ∀ i t,L[i]? = some t → HS w S t (f i) (g i))
   (rM : ∀ i t,V[i]? = some t → HS w S t (p i) (q i)) : HS w S (.mk k n s L K V) x y
theorem HS.hv {w : World} {S : Nat → Prop} {T : VT} {x y : Value} (h : HS w S T x y) : HV w T x y := by
 induction h with
 | mk a b f g p q hk hn hs hL hM hK iL iM cL cK cM _ _ ihL ihM => exact .mk a b f g p q hk hn hs hL hM hK cL cK cM ihL ihM
theorem addr_block (a : Addr) (i : Nat) : (a.add i).block = a.block := by unfold Addr.add; split <;> rfl
theorem HS.onto {w w' : World} {S S' : Nat → Prop} {T : VT} {x y : Value} (h : HS w S T x y) (hb : ∀ k,S k → w'.heap[k]? = w.heap[k]?) (hS : ∀ k,S k → S' k) : HS w' S' T x y := by
 induction h with
 | mk a b f g p q hk hn hs hL hM hK iL iM cL cK cM _ _ ihL ihM =>
  refine .mk a b f g p q hk hn hs hL hM hK (fun h => hS _ (iL h)) (fun h => hS _ (iM h)) (fun i t h => ?_) (fun i u h => ?_) (fun i t h => ?_) ihL ihM
  ·exact (cL i t h).eqs (by rw [addr_block]; exact hb _ (iL (by have := lt_of_some h; omega)))
  ·refine ⟨(World.cell?_of_block (w := w) ?_).trans (cK i u h).1,(cK i u h).2⟩
   rw [addr_block]; exact hb _ (iM (by have := lt_of_some h; omega))
  ·exact (cM i t h).eqs (by rw [show (nx (b.add (i * 6))).block = (b.add (i * 6)).block from rfl,addr_block]; exact hb _ (iM (by have := lt_of_some h; omega)))
def LS (w : World) (S : Nat → Prop) (L : List VT) (x : Value) : Prop := ∃ (a : Addr) (f g : Nat → Value),SlOf x a L.length ∧ (0 < L.length → S a.block) ∧ (∀ i t,L[i]? = some t → Node w (a.add (i * 5)) t (f i) (g i)) ∧ (∀ i t,L[i]? = some t → HS w S t (f i) (g i))
def MS (w : World) (S : Nat → Prop) (K : List ByteArray) (V : List VT) (y : Value) : Prop := ∃ (b : Addr) (p q : Nat → Value),SlOf y b V.length ∧ K.length = V.length ∧ (0 < V.length → S b.block) ∧
 (∀ i u,K[i]? = some u → w.cell? (b.add (i * 6)) = some (.string u) ∧ u.size ≤ maxLen) ∧ (∀ i t,V[i]? = some t → Node w (nx (b.add (i * 6))) t (p i) (q i)) ∧ (∀ i t,V[i]? = some t → HS w S t (p i) (q i))
theorem LS.onto {w w' : World} {S S' : Nat → Prop} {L : List VT} {x : Value} (h : LS w S L x) (hb : ∀ k,S k → w'.heap[k]? = w.heap[k]?) (hS : ∀ k,S k → S' k) : LS w' S' L x := by
 obtain ⟨a,f,g,h1,h2,h3,h4⟩ := h
 exact ⟨a,f,g,h1,fun h => hS _ (h2 h),fun i t h => (h3 i t h).eqs (by rw [addr_block]; exact hb _ (h2 (by have := lt_of_some h; omega))),fun i t h => (h4 i t h).onto hb hS⟩
theorem hs_of {w : World} {S : Nat → Prop} {T : VT} {x y : Value} (hw : (Lit.int .i64 T.kd).wf = true ∧ (Lit.int .i64 T.nm).wf = true ∧ T.st.size ≤ maxLen) (hL : LS w S T.ls x) (hM : MS w S T.ks T.vs y) : HS w S T x y := by
 obtain ⟨a,f,g,h1,h2,h3,h4⟩ := hL
 obtain ⟨b,p,q,k1,k2,k3,k4,k5,k6⟩ := hM
 cases T with
 | mk k n s L K V => exact .mk a b f g p q hw.1 hw.2.1 hw.2.2 h1 k1 k2 h2 k3 h3 k4 k5 h4 k6
theorem own_ls {w : World} {S : Nat → Prop} {base : Nat} {v : Value} {E : List (VT × Value × Value)} {ty : TypeId} (h : w.ownsRow base ty 5 v E.length (E.flatMap vc)) (hE : ∀ e ∈ E,HS w S e.1 e.2.1 e.2.2) (hS : ∀ g,v.ownBlock = some g → S g) : LS w S (E.map (·.1)) v := by
 have hc := h
 rcases hc with ⟨-,⟨rfl,h0⟩ | ⟨g,cap,cur,rfl,-,-,hn,hcm,-,-⟩⟩
 ·have : E = [] := List.eq_nil_of_length_eq_zero h0
  subst this
  exact ⟨⟨0,0,none⟩,fun _ => .nilIface,fun _ => .nilIface,⟨none,0,rfl,Nat.le_refl _,Nat.zero_le _,fun h => absurd h (by simp)⟩,fun h => absurd h (by simp),fun i t h => by simp at h,fun i t h => by simp at h⟩
 have key : ∀ (i : Nat) (a : VT × Value × Value),E[i]? = some a → ∀ (c : Nat) (u : Value),(vc a)[c]? = some u → w.cell? ⟨g,i * 5 + c,none⟩ = some u := by
  intro i a ha c u hu
  have hi := lt_of_some ha
  have hc : c < 5 := lt_of_some hu
  rw [h.cellAt (i * 5 + c) (by omega),flat_at vc 5 (fun _ => rfl) E i c a ha hc]
  exact hu
 refine ⟨⟨g,0,none⟩,fun i => ((E[i]?).map fun a => a.2.1).getD .nilIface,fun i => ((E[i]?).map fun a => a.2.2).getD .nilIface,⟨_,_,by simp,by simpa using hn,hcm,fun _ => rfl⟩,fun _ => hS g rfl,fun i t ht => ?_,fun i t ht => ?_⟩
 ·rw [List.getElem?_map] at ht
  obtain ⟨a,ha,rfl⟩ := Option.map_eq_some_iff.1 ht
  rw [add_at]
  simp only [ha,Option.map_some,Option.getD_some]
  exact ⟨key i a ha 0 _ rfl,key i a ha 1 _ rfl,key i a ha 2 _ rfl,key i a ha 3 _ rfl,key i a ha 4 _ rfl⟩
 ·rw [List.getElem?_map] at ht
  obtain ⟨a,ha,rfl⟩ := Option.map_eq_some_iff.1 ht
  simp only [ha,Option.map_some,Option.getD_some]
  exact hE a (List.mem_of_getElem? ha)
theorem own_ms {w : World} {S : Nat → Prop} {base : Nat} {v : Value} {E : List (ByteArray × VT × Value × Value)} {ty : TypeId} (h : w.ownsRow base ty 6 v E.length (E.flatMap pc)) (hE : ∀ e ∈ E,e.1.size ≤ maxLen ∧ HS w S e.2.1 e.2.2.1 e.2.2.2) (hS : ∀ g,v.ownBlock = some g → S g) : MS w S (E.map (·.1)) (E.map (·.2.1)) v := by
 have hc := h
 rcases hc with ⟨-,⟨rfl,h0⟩ | ⟨g,cap,cur,rfl,-,-,hn,hcm,-,-⟩⟩
 ·have : E = [] := List.eq_nil_of_length_eq_zero h0
  subst this
  exact ⟨⟨0,0,none⟩,fun _ => .nilIface,fun _ => .nilIface,⟨none,0,rfl,Nat.le_refl _,Nat.zero_le _,fun h => absurd h (by simp)⟩,rfl,fun h => absurd h (by simp),fun i t h => by simp at h,fun i t h => by simp at h,fun i t h => by simp at h⟩
 have key : ∀ (i : Nat) (a : ByteArray × VT × Value × Value),E[i]? = some a → ∀ (c : Nat) (u : Value),(pc a)[c]? = some u → w.cell? ⟨g,i * 6 + c,none⟩ = some u := by
  intro i a ha c u hu
  have hi := lt_of_some ha
  have hc : c < 6 := lt_of_some hu
  rw [h.cellAt (i * 6 + c) (by omega),flat_at pc 6 (fun _ => rfl) E i c a ha hc]
  exact hu
 refine ⟨⟨g,0,none⟩,fun i => ((E[i]?).map fun a => a.2.2.1).getD .nilIface,fun i => ((E[i]?).map fun a => a.2.2.2).getD .nilIface,⟨_,_,by simp,by simpa using hn,hcm,fun _ => rfl⟩,by simp,fun _ => hS g rfl,fun i u hu => ?_,fun i t ht => ?_,fun i t ht => ?_⟩
 ·rw [List.getElem?_map] at hu
  obtain ⟨a,ha,rfl⟩ := Option.map_eq_some_iff.1 hu
  rw [add_at]
  exact ⟨key i a ha 0 _ rfl,(hE a (List.mem_of_getElem? ha)).1⟩
 ·rw [List.getElem?_map] at ht
  obtain ⟨a,ha,rfl⟩ := Option.map_eq_some_iff.1 ht
  rw [add_at]
  simp only [ha,Option.map_some,Option.getD_some]
  exact ⟨key i a ha 1 _ rfl,key i a ha 2 _ rfl,key i a ha 3 _ rfl,key i a ha 4 _ rfl,key i a ha 5 _ rfl⟩
 ·rw [List.getElem?_map] at ht
  obtain ⟨a,ha,rfl⟩ := Option.map_eq_some_iff.1 ht
  simp only [ha,Option.map_some,Option.getD_some]
  exact (hE a (List.mem_of_getElem? ha)).2
theorem HF.hs {w : World} {lo hi : Nat} {T : VT} {x y : Value} (h : HF w lo hi T x y) : HS w (fun k => lo ≤ k ∧ k < hi) T x y := by
 induction h with
 | mk m bL bM l r f g p q hk hn hs hL hM hK lom mhi iL iM oL oM cL cK cM _ _ ihL ihM =>
  refine .mk _ _ f g p q hk hn hs hL.of hM.of hK (fun h => ?_) (fun h => ?_) cL cK cM (fun i t h => ?_) (fun i t h => ?_)
  ·have h1 := iL h; have h2 := oL 0 _ (Nat.zero_le _) (Nat.le_refl _); dsimp only; omega
  ·have h1 := iM h; have h2 := oM 0 _ (Nat.zero_le _) (Nat.le_refl _); dsimp only; omega
  ·have hi := lt_of_some h
   have h1 := iL (by omega)
   have h2 := oL 0 i (Nat.zero_le _) (by omega)
   have h3 := oL (i + 1) _ hi (Nat.le_refl _)
   exact (ihL i t h).onto (fun _ _ => rfl) (fun k hk => by omega)
  ·have hi := lt_of_some h
   have h1 := iM (by omega)
   have h2 := oM 0 i (Nat.zero_le _) (by omega)
   have h3 := oM (i + 1) _ hi (Nat.le_refl _)
   exact (ihM i t h).onto (fun _ _ => rfl) (fun k hk => by omega)
end Go.Proofs.YteimbjamnfkapaaGreatDoor
namespace Go.Proofs.YteimbjamnfkapaaGreatDoor
open Go.RowKit
def Z5 (w : World) (b : Nat) : Prop := (w.cell? ⟨b,0,none⟩ = some (.int .i64 0) ∧ w.cell? ⟨b,1,none⟩ = some (.int .i64 0) ∧ w.cell? ⟨b,2,none⟩ = some (.string ⟨#[]⟩) ∧ w.cell? ⟨b,3,none⟩ = some (.slice none 0 0) ∧ w.cell? ⟨b,4,none⟩ = some (.slice none 0 0)) ∧ ∀ o,w.frozen? ⟨b,o,none⟩ = false
theorem z5_new (w : World) : Z5 (w.alloc (.cells #[.int .i64 0,.int .i64 0,.string ⟨#[]⟩,.slice none 0 0,.slice none 0 0] 29)) w.heap.size := ⟨by simp,fun o => (Row.new w #[.int .i64 0,.int .i64 0,.string ⟨#[]⟩,.slice none 0 0,.slice none 0 0] 29).frozen o⟩
theorem Z5.onto {w w' : World} {b : Nat} (h : Z5 w b) (hb : Below w.heap.size w w') : Z5 w' b :=
 ⟨⟨keepCell hb h.1.1,keepCell hb h.1.2.1,keepCell hb h.1.2.2.1,keepCell hb h.1.2.2.2.1,keepCell hb h.1.2.2.2.2⟩,fun o => (hb.frozen (p := ⟨b,o,none⟩) (World.block_lt_of_cell? w ⟨b,0,none⟩ h.1.1)).trans (h.2 o)⟩
end Go.Proofs.YteimbjamnfkapaaGreatDoor
/- The document's side: may a path be? -/
/- The document's side: a path as its own steps. -/
/- The document's side: are two paths alike? -/
namespace Go.Proofs.YteimbjamnfkapaaGreatDoor
open Go.RowKit
def stepOk (s : PStep) : Bool := if s.place = true then (s.key.toList.isEmpty && decide (0 ≤ s.at_ ∧ s.at_ ≤ 1000000000)) else (decide (s.at_ = 0) && strOkB s.key)
def pathOk (p : List PStep) : Bool := decide (p.length ≤ 50) && p.all stepOk
end Go.Proofs.YteimbjamnfkapaaGreatDoor
namespace Go.Proofs.YteimbjamnfkapaaGreatDoor
open Go.RowKit
def sc (s : PStep) : List Value := [.string s.key,.int .i64 s.at_,.bool s.place]
theorem sc_one (s : PStep) : ∀ u ∈ sc s,u.oneCell' = true := by
 intro u hu
 unfold sc at hu
 simp at hu
 rcases hu with rfl | rfl | rfl <;> rfl
theorem own_inp {w : World} {base : Nat} {v : Value} {p : List PStep} {ty : TypeId} (h : w.ownsRow base ty 3 v p.length (p.flatMap sc)) (hp : ∀ s ∈ p,s.key.size ≤ maxLen) : InP w p v := by
 have hc := h
 rcases hc with ⟨-,⟨rfl,h0⟩ | ⟨g,cap,cur,rfl,-,-,hn,hcm,-,-⟩⟩
 ·have : p = [] := List.eq_nil_of_length_eq_zero h0
  subst this
  exact ⟨⟨0,0,none⟩,⟨none,0,rfl,Nat.le_refl _,Nat.zero_le _,fun h => absurd h (by simp)⟩,fun i s h => by simp at h⟩
 have key : ∀ (i : Nat) (s : PStep),p[i]? = some s → ∀ (c : Nat) (u : Value),(sc s)[c]? = some u → w.cell? ⟨g,i * 3 + c,none⟩ = some u := by
  intro i s hs c u hu
  have hi := lt_of_some hs
  have hc : c < 3 := lt_of_some hu
  rw [h.cellAt (i * 3 + c) (by omega),flat_at sc 3 (fun _ => rfl) p i c s hs hc]
  exact hu
 refine ⟨⟨g,0,none⟩,⟨_,_,rfl,hn,hcm,fun _ => rfl⟩,fun i s hs => ?_⟩
 rw [add_at]
 exact ⟨key i s hs 0 _ rfl,key i s hs 1 _ rfl,key i s hs 2 _ rfl,hp s (List.mem_of_getElem? hs)⟩
end Go.Proofs.YteimbjamnfkapaaGreatDoor
