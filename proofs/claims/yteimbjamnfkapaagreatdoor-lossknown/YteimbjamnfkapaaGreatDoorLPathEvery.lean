import Derived.Test.YteimbjamnfkapaaGreatDoorLPathOne
import Derived.Test.YteimbjamnfkapaaGreatDoorLVPlus
import Derived.Test.YteimbjamnfkapaaGreatDoorLPathDoc
import Derived.Shelf.SlicesE.Clone
/- Plain mathematics of places in trees. -/
/- A tree in a box of which one node may be changed. -/
namespace Go.Proofs.YteimbjamnfkapaaGreatDoor
open Go.RowKit
def firstI (p : ByteArray → Bool) : List ByteArray → Option Nat
 | [] => none
 | c :: K => if p c = true then some 0 else (firstI p K).map (· + 1)
theorem firstI_at {p : ByteArray → Bool} : ∀ {K : List ByteArray} {j : Nat} {c : ByteArray},K[j]? = some c → p c = true → (∀ (i : Nat) (d : ByteArray),i < j → K[i]? = some d → p d = false) → firstI p K = some j
 | [],j,c,h,_,_ => by simp at h
 | a :: K,0,c,h,hp,_ => by simp at h; subst h; unfold firstI; rw [if_pos hp]
 | a :: K,j + 1,c,h,hp,hn => by
  have h0 := hn 0 a (by omega) rfl
  unfold firstI
  rw [if_neg (by rw [h0]; decide),firstI_at (K := K) (j := j) (by simpa using h) hp (fun i d hi hd => hn (i + 1) d (by omega) (by simpa using hd))]
  rfl
def oI : Option Nat → Int
 | none => -1
 | some i => (i : Int)
def keyIs (key c : ByteArray) : Bool := decide (c.data.toList = key.data.toList)
def idxT (T : VT) (s : PStep) : Option Nat :=
 if s.place = true then (if T.kd = 5 ∧ 0 ≤ s.at_ ∧ s.at_ < T.ls.length then some s.at_.toNat else none)
 else if T.kd = 6 then firstI (keyIs s.key) T.ks else none
def kidT (T : VT) (s : PStep) (i : Nat) : Option VT := if s.place = true then T.ls[i]? else T.vs[i]?
def getP : VT → List PStep → Option VT
 | T,[] => some T
 | T,s :: p => match (idxT T s).bind (kidT T s) with
  | none => none
  | some t => getP t p
theorem getP_snoc : ∀ (p : List PStep) (T : VT) (s : PStep),getP T (p ++ [s]) = (getP T p).bind fun t => (idxT t s).bind (kidT t s)
 | [],T,s => by
  simp only [List.nil_append,getP,Option.bind_some]
  cases (idxT T s).bind (kidT T s) <;> rfl
 | a :: p,T,s => by
  simp only [List.cons_append,getP]
  cases h : (idxT T a).bind (kidT T a) with
  | none => rfl
  | some t => simp only; exact getP_snoc p t s
end Go.Proofs.YteimbjamnfkapaaGreatDoor
namespace Go.Proofs.YteimbjamnfkapaaGreatDoor
open Go.RowKit
def repT (T : VT) (s : PStep) (i : Nat) (t : VT) : VT := match T with
 | .mk k n st L K V => if s.place = true then .mk k n st (L.set i t) K V else .mk k n st L K (V.set i t)
theorem repT_kd (T : VT) (s : PStep) (i : Nat) (t : VT) : (repT T s i t).kd = T.kd ∧ (repT T s i t).nm = T.nm ∧ (repT T s i t).st = T.st ∧ (repT T s i t).ks = T.ks := by
 cases T; unfold repT; simp only; split <;> exact ⟨rfl,rfl,rfl,rfl⟩
theorem node_rep {w : World} {a : Addr} {T : VT} {x y : Value} (h : Node w a T x y) (s : PStep) (i : Nat) (t : VT) : Node w a (repT T s i t) x y := by
 obtain ⟨h1,h2,h3,-⟩ := repT_kd T s i t
 unfold Node at h ⊢
 rw [h1,h2,h3]; exact h
structure Kept (w w' : World) (lo hi : Nat) (B a : Addr) (la ha : Nat) : Prop where
 far : ∀ k,lo ≤ k → k < hi → k ≠ a.block → ¬ (la ≤ k ∧ k < ha) → w'.heap[k]? = w.heap[k]?
 root : B.block ≠ a.block → w'.heap[B.block]? = w.heap[B.block]?
 near : ∀ o,¬ (a.off ≤ o ∧ o < a.off + 5) → w'.cell? ⟨a.block,o,none⟩ = w.cell? ⟨a.block,o,none⟩
def replP : VT → List PStep → VT → VT
 | _,[],X => X
 | T,s :: p,X => match idxT T s with
  | none => T
  | some i => match kidT T s i with
   | none => T
   | some t => repT T s i (replP t p X)
theorem replP_snoc : ∀ (p : List PStep) (T U : VT) (s : PStep) (i : Nat) (X t : VT),getP T p = some U → idxT U s = some i → kidT U s i = some t → replP T (p ++ [s]) X = replP T p (repT U s i X)
 | [],T,U,s,i,X,t,h,hi,hk => by
  simp only [getP] at h; injection h with h; subst h
  simp only [List.nil_append,replP,hi,hk]
 | a :: p,T,U,s,i,X,t,h,hi,hk => by
  simp only [List.cons_append,replP]
  simp only [getP] at h
  cases h1 : idxT T a with
  | none => simp [h1] at h
  | some j =>
   rw [h1] at h
   simp only [Option.bind_some] at h ⊢
   cases h2 : kidT T a j with
   | none => simp [h2] at h
   | some u =>
    rw [h2] at h
    simp only at h ⊢
    rw [replP_snoc p u U s i X t h hi hk]
structure Hole (w : World) (lo hi : Nat) (B : Addr) (T0 : VT) (p : List PStep) (a : Addr) (T : VT) (x y : Value) (la ha : Nat) : Prop where
 node : Node w a T x y
 tree : HF w la ha T x y
 get : getP T0 p = some T
 inn : lo ≤ la ∧ ha ≤ hi
 out : ¬ (la ≤ a.block ∧ a.block < ha)
 at_ : a = B ∨ (lo ≤ a.block ∧ a.block < hi)
 plain : a.spot = none
 soft : ∀ o,w.frozen? ⟨a.block,o,none⟩ = false
 back : ∀ (w' : World) (S : Nat → Prop) (T' : VT) (x' y' : Value),Kept w w' lo hi B a la ha → (∀ k,lo ≤ k → k < hi → S k) → Node w' a T' x' y' → HS w' S T' x' y' → ∃ X Y,Node w' B (replP T0 p T') X Y ∧ HS w' S (replP T0 p T') X Y
theorem Hole.root {w : World} {lo hi : Nat} {B : Addr} {T : VT} {x y : Value} (hn : Node w B T x y) (hf : HF w lo hi T x y) (hB : ¬ (lo ≤ B.block ∧ B.block < hi)) (hs : B.spot = none) (hz : ∀ o,w.frozen? ⟨B.block,o,none⟩ = false) : Hole w lo hi B T [] B T x y lo hi where
 node := hn
 tree := hf
 get := rfl
 inn := ⟨Nat.le_refl _,Nat.le_refl _⟩
 out := hB
 at_ := .inl rfl
 plain := hs
 soft := hz
 back := fun _ _ _ x' y' _ _ h1 h2 => ⟨x',y',h1,h2⟩
theorem node_cells {w w' : World} {b o : Nat} {t : VT} {x y : Value} (h : Node w ⟨b,o,none⟩ t x y) (hc : ∀ k,o ≤ k → k < o + 5 → w'.cell? ⟨b,k,none⟩ = w.cell? ⟨b,k,none⟩) : Node w' ⟨b,o,none⟩ t x y :=
 ⟨(hc o (Nat.le_refl _) (by omega)).trans h.1,(hc (o + 1) (by omega) (by omega)).trans h.2.1,(hc (o + 2) (by omega) (by omega)).trans h.2.2.1,(hc (o + 3) (by omega) (by omega)).trans h.2.2.2.1,(hc (o + 4) (by omega) (by omega)).trans h.2.2.2.2⟩
theorem Hole.stepL {w : World} {lo hi : Nat} {B : Addr} {T0 : VT} {p : List PStep} {a : Addr} {T : VT} {x y : Value} {la ha : Nat} (h : Hole w lo hi B T0 p a T x y la ha) (hB : ¬ (lo ≤ B.block ∧ B.block < hi)) (s : PStep) (hp : s.place = true) (i : Nat) (t : VT) (hx : idxT T s = some i) (hk : kidT T s i = some t) :
  ∃ (b : Nat) (x' y' : Value) (la' ha' : Nat),x = .slice (some ⟨b,0,none⟩) T.ls.length T.ls.length ∧ i < T.ls.length ∧ Hole w lo hi B T0 (p ++ [s]) ⟨b,i * 5,none⟩ t x' y' la' ha' := by
 obtain ⟨hn,hf,hg,hin,ho,hat,hpl,-,hback⟩ := h
 have hf0 := hf
 cases hf with
 | mk m bL bM l r f g p' q hk' hn' hs' hL hM hK lom mhi iL iM oL oM cL cK cM rL rM =>
  rename_i k n st L K V
  have hkt : L[i]? = some t := by unfold kidT at hk; rw [if_pos hp] at hk; exact hk
  have hil := lt_of_some hkt
  obtain ⟨oa,hxe,hmax,hoa⟩ := hL
  obtain ⟨hob,cc,hcc,-⟩ := hoa (by omega)
  subst hob
  have e1 := iL (by omega)
  have e2 := oL 0 i (Nat.zero_le _) (by omega)
  have e3 := oL (i + 1) _ hil (Nat.le_refl _)
  have e4 := oL 0 _ (Nat.zero_le _) (Nat.le_refl L.length)
  have e5 := oL i (i + 1) (by omega) hil
  have q1 : la ≤ bL ∧ bL < ha := by omega
  have q2 : la ≤ l i := by omega
  have q3 : l (i + 1) ≤ ha := by omega
  have hne : a.block ≠ bL := fun e => ho (by rw [e]; exact q1)
  have hni : ¬ (l i ≤ a.block ∧ a.block < l (i + 1)) := fun h => ho ⟨Nat.le_trans q2 h.1,Nat.lt_of_lt_of_le h.2 q3⟩
  have hBbbL : B.block ≠ bL := by intro e; apply hB; rw [e]; clear e hB; omega
  refine ⟨bL,f i,g i,l i,l (i + 1),hxe,hil,?_,rL i t hkt,?_,⟨by omega,by omega⟩,?_,.inr ⟨by show lo ≤ bL; omega,by show bL < hi; omega⟩,rfl,fun o => by simp [World.frozen?,hcc],?_⟩
  ·have := cL i t hkt; rw [add_at] at this; exact this
  ·rw [getP_snoc,hg]; simp only [Option.bind_some,hx,hk]
  ·show ¬ (l i ≤ bL ∧ bL < l (i + 1)); omega
  ·intro w' S T' x' y' hkp hS hnode hhs
   have hkp1 := hkp.far
   have hkp3 := hkp.near
   simp only at hkp1 hkp3
   -- the node above stays as it was
   have hab : w'.heap[a.block]? = w.heap[a.block]? := by
    rcases hat with rfl | hat
    ·exact hkp.root hne
    ·exact hkp1 a.block hat.1 hat.2 hne hni
   have hnode2 : Node w' a (repT (.mk k n st L K V) s i T') x y := node_rep (hn.eqs hab) s i T'
   have hother : ∀ j u,j ≠ i → L[j]? = some u → Node w' ⟨bL,j * 5,none⟩ u (f j) (g j) := fun j u hji hu => by
    have h9 := cL j u hu
    rw [add_at] at h9
    exact node_cells h9 (fun o h1 h2 => hkp3 o (by omega))
   have hsub : ∀ j u,j ≠ i → L[j]? = some u → HS w' S u (f j) (g j) := fun j u hji hu => by
    have hj := lt_of_some hu
    have g1 := oL 0 j (Nat.zero_le _) (by omega)
    have g2 := oL (j + 1) _ hj (Nat.le_refl _)
    have g3 := oL j (j + 1) (by omega) hj
    have g4 : l (j + 1) ≤ l i ∨ l (i + 1) ≤ l j := by
     rcases Nat.lt_or_ge j i with h9 | h9
     ·exact .inl (oL (j + 1) i h9 (by omega))
     ·exact .inr (oL (i + 1) j (by omega) (by omega))
    exact ((rL j u hu).onto (w' := w') (fun k h1 h2 => hkp1 k (by omega) (by omega) (by omega) (by omega))).hs.onto (fun _ _ => rfl) (fun k h1 => hS k (by omega) (by omega))
   have hms : MS w' S K V y := by
    obtain ⟨ob,hye,hmx,hob⟩ := hM
    have hbl : 0 < V.length → w'.heap[bM]? = w.heap[bM]? := fun h9 => by
     have g1 := iM h9
     have g2 := oM 0 _ (Nat.zero_le _) (Nat.le_refl V.length)
     exact hkp1 bM (by omega) (by omega) (by omega) (by omega)
    refine ⟨⟨bM,0,none⟩,p',q,⟨ob,_,hye,Nat.le_refl _,hmx,fun h9 => (hob h9).1⟩,hK,fun h9 => ?_,fun j u hu => ?_,fun j u hu => ?_,fun j u hu => ?_⟩
    ·have g1 := iM h9; have g2 := oM 0 _ (Nat.zero_le _) (Nat.le_refl V.length); exact hS _ (by show lo ≤ bM; omega) (by show bM < hi; omega)
    ·refine ⟨(World.cell?_of_block (w := w) ?_).trans (cK j u hu).1,(cK j u hu).2⟩
     rw [addr_block]; exact hbl (by have := lt_of_some hu; omega)
    ·exact (cM j u hu).eqs (by rw [show (nx (Addr.add ⟨bM,0,none⟩ (j * 6))).block = (Addr.add ⟨bM,0,none⟩ (j * 6)).block from rfl,addr_block]; exact hbl (by have := lt_of_some hu; omega))
    ·have hj := lt_of_some hu
     have g0 := iM (by omega)
     have g1 := oM 0 j (Nat.zero_le _) (by omega)
     have g2 := oM (j + 1) _ hj (Nat.le_refl _)
     exact ((rM j u hu).onto (w' := w') (fun k h1 h2 => hkp1 k (by omega) (by omega) (by omega) (by omega))).hs.onto (fun _ _ => rfl) (fun k h1 => hS k (by omega) (by omega))
   have hhs2 : HS w' S (repT (.mk k n st L K V) s i T') x y := by
    have er : repT (.mk k n st L K V) s i T' = .mk k n st (L.set i T') K V := by unfold repT; simp only; rw [if_pos hp]
    rw [er]
    refine hs_of (T := .mk k n st (L.set i T') K V) ⟨hk',hn',hs'⟩ (show LS w' S (L.set i T') x from ?_) hms
    refine ⟨⟨bL,0,none⟩,fun j => if j = i then x' else f j,fun j => if j = i then y' else g j,⟨some ⟨bL,0,none⟩,L.length,by rw [List.length_set]; exact hxe,by rw [List.length_set]; exact Nat.le_refl _,hmax,fun _ => rfl⟩,fun _ => hS _ (by show lo ≤ bL; omega) (by show bL < hi; omega),fun j u hu => ?_,fun j u hu => ?_⟩
    ·rw [add_at]
     have hu2 : (L.set i T')[j]? = some u := hu
     rw [List.getElem?_set] at hu2
     by_cases hji : i = j
     ·rw [if_pos hji,if_pos (by omega)] at hu2; injection hu2 with hu2; subst hu2 hji
      simp only [if_true]; exact hnode
     ·rw [if_neg hji] at hu2
      simp only [if_neg (Ne.symm hji)]; exact hother j u (Ne.symm hji) hu2
    ·have hu2 : (L.set i T')[j]? = some u := hu
     rw [List.getElem?_set] at hu2
     by_cases hji : i = j
     ·rw [if_pos hji,if_pos (by omega)] at hu2; injection hu2 with hu2; subst hu2 hji
      simp only [if_true]; exact hhs
     ·rw [if_neg hji] at hu2
      simp only [if_neg (Ne.symm hji)]; exact hsub j u (Ne.symm hji) hu2
   rw [replP_snoc p T0 _ s i T' t hg hx hk]
   refine hback w' S _ x y ⟨fun k h1 h2 h3 h4 => hkp1 k h1 h2 (by omega) (by omega),fun _ => hkp.root hBbbL,fun o h9 => World.cell?_of_block (w := w) hab⟩ hS hnode2 hhs2
theorem Hole.stepM {w : World} {lo hi : Nat} {B : Addr} {T0 : VT} {p : List PStep} {a : Addr} {T : VT} {x y : Value} {la ha : Nat} (h : Hole w lo hi B T0 p a T x y la ha) (hB : ¬ (lo ≤ B.block ∧ B.block < hi)) (s : PStep) (hp : s.place = false) (i : Nat) (t : VT) (hx : idxT T s = some i) (hk : kidT T s i = some t) :
  ∃ (b : Nat) (x' y' : Value) (la' ha' : Nat),y = .slice (some ⟨b,0,none⟩) T.vs.length T.vs.length ∧ i < T.vs.length ∧ Hole w lo hi B T0 (p ++ [s]) ⟨b,i * 6 + 1,none⟩ t x' y' la' ha' := by
 obtain ⟨hn,hf,hg,hin,ho,hat,hpl,-,hback⟩ := h
 have hf0 := hf
 cases hf with
 | mk m bL bM l r f g p' q hk' hn' hs' hL hM hK lom mhi iL iM oL oM cL cK cM rL rM =>
  rename_i k n st L K V
  have hkt : V[i]? = some t := by unfold kidT at hk; rw [if_neg (by rw [hp]; decide)] at hk; exact hk
  have hil := lt_of_some hkt
  obtain ⟨oa,hye,hmax,hoa⟩ := hM
  obtain ⟨hob,cc,hcc,-⟩ := hoa (by omega)
  subst hob
  have e1 := iM (by omega)
  have e2 := oM 0 i (Nat.zero_le _) (by omega)
  have e3 := oM (i + 1) _ hil (Nat.le_refl _)
  have e4 := oM 0 _ (Nat.zero_le _) (Nat.le_refl V.length)
  have e5 := oM i (i + 1) (by omega) hil
  have nxa : ∀ j,nx (Addr.add ⟨bM,0,none⟩ (j * 6)) = ⟨bM,j * 6 + 1,none⟩ := fun j => by rw [add_at]; rfl
  have q1 : la ≤ bM ∧ bM < ha := by omega
  have q2 : la ≤ r i := by omega
  have q3 : r (i + 1) ≤ ha := by omega
  have hne : a.block ≠ bM := fun e => ho (by rw [e]; exact q1)
  have hni : ¬ (r i ≤ a.block ∧ a.block < r (i + 1)) := fun h => ho ⟨Nat.le_trans q2 h.1,Nat.lt_of_lt_of_le h.2 q3⟩
  have hBbbM : B.block ≠ bM := by intro e; apply hB; rw [e]; clear e hB; omega
  refine ⟨bM,p' i,q i,r i,r (i + 1),hye,hil,?_,rM i t hkt,?_,⟨by omega,by omega⟩,?_,.inr ⟨by show lo ≤ bM; omega,by show bM < hi; omega⟩,rfl,fun o => by simp [World.frozen?,hcc],?_⟩
  ·have := cM i t hkt; rw [nxa] at this; exact this
  ·rw [getP_snoc,hg]; simp only [Option.bind_some,hx,hk]
  ·show ¬ (r i ≤ bM ∧ bM < r (i + 1)); omega
  ·intro w' S T' x' y' hkp hS hnode hhs
   have hkp1 := hkp.far
   have hkp3 := hkp.near
   simp only at hkp1 hkp3
   have hab : w'.heap[a.block]? = w.heap[a.block]? := by
    rcases hat with rfl | hat
    ·exact hkp.root hne
    ·exact hkp1 a.block hat.1 hat.2 hne hni
   have hnode2 : Node w' a (repT (.mk k n st L K V) s i T') x y := node_rep (hn.eqs hab) s i T'
   have hother : ∀ j u,j ≠ i → V[j]? = some u → Node w' ⟨bM,j * 6 + 1,none⟩ u (p' j) (q j) := fun j u hji hu => by
    have h9 := cM j u hu
    rw [nxa] at h9
    exact node_cells h9 (fun o h1 h2 => hkp3 o (by omega))
   have hsub : ∀ j u,j ≠ i → V[j]? = some u → HS w' S u (p' j) (q j) := fun j u hji hu => by
    have hj := lt_of_some hu
    have g1 := oM 0 j (Nat.zero_le _) (by omega)
    have g2 := oM (j + 1) _ hj (Nat.le_refl _)
    have g3 := oM j (j + 1) (by omega) hj
    have g4 : r (j + 1) ≤ r i ∨ r (i + 1) ≤ r j := by
     rcases Nat.lt_or_ge j i with h9 | h9
     ·exact .inl (oM (j + 1) i h9 (by omega))
     ·exact .inr (oM (i + 1) j (by omega) (by omega))
    exact ((rM j u hu).onto (w' := w') (fun k h1 h2 => hkp1 k (by omega) (by omega) (by omega) (by omega))).hs.onto (fun _ _ => rfl) (fun k h1 => hS k (by omega) (by omega))
   have hls : LS w' S L x := by
    obtain ⟨ob,hxe,hmx,hob⟩ := hL
    have hbl : 0 < L.length → w'.heap[bL]? = w.heap[bL]? := fun h9 => by
     have g1 := iL h9
     have g2 := oL 0 _ (Nat.zero_le _) (Nat.le_refl L.length)
     exact hkp1 bL (by omega) (by omega) (by omega) (by omega)
    refine ⟨⟨bL,0,none⟩,f,g,⟨ob,_,hxe,Nat.le_refl _,hmx,fun h9 => (hob h9).1⟩,fun h9 => ?_,fun j u hu => ?_,fun j u hu => ?_⟩
    ·have g1 := iL h9; have g2 := oL 0 _ (Nat.zero_le _) (Nat.le_refl L.length); exact hS _ (by show lo ≤ bL; omega) (by show bL < hi; omega)
    ·exact (cL j u hu).eqs (by rw [addr_block]; exact hbl (by have := lt_of_some hu; omega))
    ·have hj := lt_of_some hu
     have g0 := iL (by omega)
     have g1 := oL 0 j (Nat.zero_le _) (by omega)
     have g2 := oL (j + 1) _ hj (Nat.le_refl _)
     exact ((rL j u hu).onto (w' := w') (fun k h1 h2 => hkp1 k (by omega) (by omega) (by omega) (by omega))).hs.onto (fun _ _ => rfl) (fun k h1 => hS k (by omega) (by omega))
   have hhs2 : HS w' S (repT (.mk k n st L K V) s i T') x y := by
    have er : repT (.mk k n st L K V) s i T' = .mk k n st L K (V.set i T') := by unfold repT; simp only; rw [if_neg (by rw [hp]; decide)]
    rw [er]
    refine hs_of (T := .mk k n st L K (V.set i T')) ⟨hk',hn',hs'⟩ hls (show MS w' S K (V.set i T') y from ?_)
    refine ⟨⟨bM,0,none⟩,fun j => if j = i then x' else p' j,fun j => if j = i then y' else q j,⟨some ⟨bM,0,none⟩,V.length,by rw [List.length_set]; exact hye,by rw [List.length_set]; exact Nat.le_refl _,hmax,fun _ => rfl⟩,by rw [List.length_set]; exact hK,fun _ => hS _ (by show lo ≤ bM; omega) (by show bM < hi; omega),fun j u hu => ?_,fun j u hu => ?_,fun j u hu => ?_⟩
    ·have h9 := cK j u hu
     rw [add_at] at h9 ⊢
     exact ⟨(hkp3 _ (by omega)).trans h9.1,h9.2⟩
    ·rw [nxa]
     have hu2 : (V.set i T')[j]? = some u := hu
     rw [List.getElem?_set] at hu2
     by_cases hji : i = j
     ·rw [if_pos hji,if_pos (by omega)] at hu2; injection hu2 with hu2; subst hu2 hji
      simp only [if_true]; exact hnode
     ·rw [if_neg hji] at hu2
      simp only [if_neg (Ne.symm hji)]; exact hother j u (Ne.symm hji) hu2
    ·have hu2 : (V.set i T')[j]? = some u := hu
     rw [List.getElem?_set] at hu2
     by_cases hji : i = j
     ·rw [if_pos hji,if_pos (by omega)] at hu2; injection hu2 with hu2; subst hu2 hji
      simp only [if_true]; exact hhs
     ·rw [if_neg hji] at hu2
      simp only [if_neg (Ne.symm hji)]; exact hsub j u (Ne.symm hji) hu2
   rw [replP_snoc p T0 _ s i T' t hg hx hk]
   refine hback w' S _ x y ⟨fun k h1 h2 h3 h4 => hkp1 k h1 h2 (by omega) (by omega),fun _ => hkp.root hBbbM,fun o h9 => World.cell?_of_block (w := w) hab⟩ hS hnode2 hhs2
end Go.Proofs.YteimbjamnfkapaaGreatDoor
/- The walk through a tree that tells all paths: its mathematics, and what it holds in memory. -/
/- path.All, walked. -/
/- path.All, walked: a node visited, and all. -/
namespace Go.Proofs.YteimbjamnfkapaaGreatDoor
open Go.RowKit
def plS (i : Nat) : PStep := ⟨⟨#[]⟩,i,true⟩
def kyS (c : ByteArray) : PStep := ⟨c,0,false⟩
mutual
def allT : VT → List PStep → List (List PStep)
 | .mk k _ _ L K V,p => p :: (if k = 5 then allL L 0 p else if k = 6 then allM V K p else [])
def allL : List VT → Nat → List PStep → List (List PStep)
 | [],_,_ => []
 | t :: r,i,p => allT t (p ++ [plS i]) ++ allL r (i + 1) p
def allM : List VT → List ByteArray → List PStep → List (List PStep)
 | [],_,_ => []
 | t :: r,K,p => allT t (p ++ [kyS (K.headD ⟨#[]⟩)]) ++ allM r K.tail p
end
mutual
theorem allT_len : ∀ (T : VT) (p : List PStep),(allT T p).length ≤ szT T
 | .mk k _ _ L K V,p => by
  have h1 := allL_len L 0 p
  have h2 := allM_len V K p
  simp only [allT,szT,List.length_cons]
  split
  ·omega
  ·split
   ·omega
   ·simp only [List.length_nil]; omega
theorem allL_len : ∀ (L : List VT) (i : Nat) (p : List PStep),(allL L i p).length ≤ szL L
 | [],_,_ => Nat.zero_le _
 | t :: r,i,p => by
  have h1 := allT_len t (p ++ [plS i])
  have h2 := allL_len r (i + 1) p
  simp only [allL,szL,List.length_append]; omega
theorem allM_len : ∀ (V : List VT) (K : List ByteArray) (p : List PStep),(allM V K p).length ≤ szL V
 | [],_,_ => Nat.zero_le _
 | t :: r,K,p => by
  have h1 := allT_len t (p ++ [kyS (K.headD ⟨#[]⟩)])
  have h2 := allM_len r K.tail p
  simp only [allM,szL,List.length_append]; omega
end
theorem Tryz.infoPst : (Tryz.prog.info? 78).map (fun i => (i.zero,i.size,i.bytes)) = some (some (.agg #[.string ⟨#[]⟩,.int .i64 0,.bool false]),3,32) := by kernel_rfl
def renC : Go.Shelf.Ren := ⟨fun | 41 => 103 | n => n,fun | 22 => 41 | 23 => 78 | 4 => 4 | n => n,fun | n => n⟩
theorem laysCl : Go.Proofs.SlLaysE0.n41 Tryz.prog renC := {
 mixed := by kernel_rfl
 f41 := ⟨Tryz.f103.name,by decide,Tryz.func103.trans (congrArg some (by kernel_rfl))⟩
 t4 := Tryz.underlying4
 a4 := Tryz.isAgg4
 z4 := Tryz.sizeOf4
 v4 := Tryz.zeroValue4
 t22 := Tryz.underlying41
 a22 := Tryz.isAgg41
 z22 := Tryz.sizeOf41
 v22 := Tryz.zeroValue41 }
theorem flat_one (p : List PStep) : ∀ u ∈ p.flatMap sc,u.oneCell' = true := by
 intro u hu
 obtain ⟨s,-,h⟩ := List.mem_flatMap.1 hu
 exact sc_one s u h
theorem pclone_any (p : List PStep) (nv : Value) (B : Nat) (w : World) (h : w.ownsRow B 78 3 nv p.length (p.flatMap sc)) (hl : p.length ≤ 4000000) :
  Calls Tryz.prog 103 #[nv] w fun e w' => ∃ u,e = .returned u ∧ w'.ownsRow w.heap.size 78 3 u p.length (p.flatMap sc) ∧ Below w.heap.size w w' := by
 obtain ⟨i0,hi0,hz0,hz1,hz2⟩ := info_parts Tryz.infoPst
 have hc := h
 rcases hc with ⟨hlen,⟨rfl,h0⟩ | ⟨g,cap,cur,rfl,-,-,hn,hcm,-,-⟩⟩
 ·have : p = [] := List.eq_nil_of_length_eq_zero h0
  subst this
  refine Calls.mono (AnyE.slices_Clone_nil laysCl 0 0 w) ?_
  rintro e w' ⟨rfl,rfl⟩
  exact ⟨_,rfl,World.ownsRow_nil _ _ _ _,Below.refl _ _⟩
 ·refine Calls.mono (AnyE.slices_Clone laysCl i0 _ 3 32 hi0 hz0 hz1 hz2 rfl (by decide) Tryz.sizeOf78 g 0 p.length cap (p.flatMap sc) w hlen (by unfold maxLen; omega) (by omega) (fun j u hu => by
   rw [Nat.zero_add,h.cellAt j (by have := lt_of_some hu; omega)]; exact hu) (flat_one p)) ?_
  rintro e w' ⟨v',rfl,h1,-,h2⟩
  exact ⟨v',rfl,h1,h2⟩
theorem own_ne {w : World} {B B' : Nat} {e e' : TypeId} {s s' n n' : Nat} {v v' : Value} {xs xs' : List Value} (h : w.ownsRow B e s v n xs) (k : w.ownsRow B' e' s' v' n' xs') (hne : e ≠ e') : v.ownBlock = none ∨ v.ownBlock ≠ v'.ownBlock := by
 rcases h.2 with ⟨rfl,-⟩ | ⟨g,cap,cur,rfl,-,hg,-⟩
 ·exact .inl rfl
 ·refine .inr fun hh => ?_
  rcases k.2 with ⟨rfl,-⟩ | ⟨g',cap',cur',rfl,-,hg',-⟩
  ·cases hh
  ·have : g = g' := by simpa [Value.ownBlock] using hh
   subst this
   rw [hg] at hg'
   injection hg' with h1
   injection h1 with _ h2
   exact hne h2
theorem own_off {w : World} {B : Nat} {e ty : TypeId} {s n b : Nat} {v : Value} {xs : List Value} {c : Array Value} {fz : Nat × Nat} (h : w.ownsRow B e s v n xs) (k : w.heap[b]? = some (.cells c ty fz)) (hne : e ≠ ty) : v.ownBlock = none ∨ v.ownBlock ≠ some b := by
 rcases h.2 with ⟨rfl,-⟩ | ⟨g,cap,cur,rfl,-,hg,-⟩
 ·exact .inl rfl
 ·refine .inr fun hh => ?_
  have : g = b := by simpa [Value.ownBlock] using hh
  subst this
  rw [hg] at k
  injection k with h1
  injection h1 with _ h2
  exact hne h2
theorem own_base {w : World} {B B' : Nat} {e : TypeId} {s n : Nat} {v : Value} {xs : List Value} (h : w.ownsRow B e s v n xs) (hB : B' ≤ B) : w.ownsRow B' e s v n xs := by
 refine ⟨h.1,?_⟩
 rcases h.2 with hn | ⟨g,cap,cur,rfl,hb,rest⟩
 ·exact .inl hn
 ·exact .inr ⟨g,cap,cur,rfl,Nat.le_trans hB hb,rest⟩
theorem own_neq {v u : Value} {w : World} {B : Nat} {e : TypeId} {s n : Nat} {xs : List Value} (h : w.ownsRow B e s v n xs) (g : Nat) (hg : u.ownBlock = some g) (hB : g < B ∨ w.heap.size ≤ g) : v.ownBlock = none ∨ v.ownBlock ≠ u.ownBlock := by
 cases hv : v.ownBlock with
 | none => exact .inl rfl
 | some k =>
  have := h.lt k hv
  refine .inr ?_
  rw [hg]
  intro hh
  injection hh with hh
  omega
theorem set_grownW (w : World) (b o : Nat) (u : Value) : w.grownBy (w.setCell ⟨b,o,none⟩ u) (some b) := ⟨rfl,rfl,rfl,by simp,fun k _ hk => Below.heap_setCell _ _ _ _ (fun e => hk (by rw [e]))⟩
theorem off_ne {o : Option Nat} {b : Nat} (h : o = none ∨ o ≠ some b) : some b ≠ o := by
 rintro rfl
 rcases h with h | h
 ·cases h
 ·exact h rfl
theorem sc_len : ∀ p : List PStep,(p.flatMap sc).length = p.length * 3
 | [] => rfl
 | a :: r => by
  have := sc_len r
  rw [List.flatMap_cons,List.length_append,this,List.length_cons]
  show 3 + _ = _
  omega
def OwnS (W w : World) (v : Value) (p : List PStep) : Prop := w.ownsRow W.heap.size 78 3 v p.length (p.flatMap sc)
def OwnP (W w : World) (v : Value) (E : List (List PStep × Value)) : Prop := w.ownsRow W.heap.size 41 1 v E.length (E.map (·.2))
end Go.Proofs.YteimbjamnfkapaaGreatDoor
namespace Go.Proofs.YteimbjamnfkapaaGreatDoor
open Go.RowKit
theorem map_len {α β : Type} {f : α → β} {E : List α} {X : List β} (h : E.map f = X) : E.length = X.length := by rw [← h,List.length_map]
theorem szT_at (T : VT) : szT T = 1 + szL T.ls + szL T.vs := by cases T; rfl
theorem own_slice {w : World} {B : Nat} {e : TypeId} {k n : Nat} {v : Value} {xs : List Value} (h : w.ownsRow B e k v n xs) : ∃ o c,v = .slice o n c := by
 rcases h.2 with ⟨rfl,e⟩ | ⟨g,cap,cur,rfl,-⟩
 ·exact ⟨none,0,by rw [e]⟩
 ·exact ⟨_,_,rfl⟩
end Go.Proofs.YteimbjamnfkapaaGreatDoor
