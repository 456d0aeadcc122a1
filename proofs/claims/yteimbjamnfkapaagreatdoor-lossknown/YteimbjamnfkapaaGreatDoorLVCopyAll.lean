import Derived.Test.YteimbjamnfkapaaGreatDoorLVBase
import Derived.Deep.LoopGhost
import Derived.Deep.RegionHeld
/- value.copyList, walked over what Copy does to each part. -/
/- value.copyPairs, walked over what Copy does to each part. -/
/- value.Copy, walked: another tree, the same, in blocks of its own. -/
namespace Go.Proofs.YteimbjamnfkapaaGreatDoor
open Go.RowKit
def CopyOk (t : VT) : Prop := ∀ (x y : Value) (w : World),HV w t x y → Calls Tryz.prog 63 #[vv t x y] w fun e w' => ∃ X Y,e = .returned (vv t X Y) ∧ HF w' w.heap.size w'.heap.size t X Y ∧ Below w.heap.size w w'
def Part (w : World) (b : Nat) (L : List VT) (j : Nat) : Prop := ∃ (l : Nat → Nat) (f g : Nat → Value),b < l 0 ∧ l j ≤ w.heap.size ∧ (∀ i k,i ≤ k → k ≤ j → l i ≤ l k) ∧
 (∀ i t,i < j → L[i]? = some t → Node w ⟨b,i * 5,none⟩ t (f i) (g i)) ∧ (∀ i t,i < j → L[i]? = some t → HF w (l i) (l (i + 1)) t (f i) (g i))
theorem part_next {w w1 : World} {b : Nat} {L : List VT} {j : Nat} {t : VT} {X Y : Value} (hp : Part w b L j) (hb : Below w.heap.size w w1) (ht : L[j]? = some t) (hr : Row w1 b 29 (L.length * 5)) (lo : Nat) (hlo : w.heap.size ≤ lo) (hf : HF w1 lo w1.heap.size t X Y) :
  Part (put5 w1 b (j * 5) (.int .i64 t.kd) (.int .i64 t.nm) (.string t.st) X Y) b L (j + 1) := by
 obtain ⟨l,f,g,h0,h1,h2,h3,h4⟩ := hp
 have hj := lt_of_some ht
 have hs := hb.size
 refine ⟨fun i => if i ≤ j then l i else w1.heap.size,fun i => if i = j then X else f i,fun i => if i = j then Y else g i,?_,?_,?_,?_,?_⟩
 ·simpa using h0
 ·rw [put5_size]; show (if j + 1 ≤ j then l (j + 1) else w1.heap.size) ≤ _; rw [if_neg (by omega)]; exact Nat.le_refl _
 ·intro i k hik hk
  show (if i ≤ j then l i else w1.heap.size) ≤ (if k ≤ j then l k else w1.heap.size)
  by_cases hkj : k ≤ j
  ·rw [if_pos hkj,if_pos (by omega)]; exact h2 i k hik hkj
  ·rw [if_neg hkj]
   by_cases hij : i ≤ j
   ·rw [if_pos hij]; have := h2 i j hij (Nat.le_refl _); omega
   ·rw [if_neg hij]; exact Nat.le_refl _
 ·intro i u hi hu
  show Node _ _ _ (if i = j then X else f i) (if i = j then Y else g i)
  by_cases hij : i = j
  ·subst hij
   rw [ht] at hu; cases hu
   rw [if_pos rfl,if_pos rfl]
   exact put5_node hr _ (by omega) t X Y
  ·rw [if_neg hij,if_neg hij]
   refine node_at ((h3 i u (by omega) hu).onto hb) (fun c hc => put5_other _ _ _ _ _ _ _ _ _ (by omega))
 ·intro i u hi hu
  show HF _ (if i ≤ j then l i else w1.heap.size) (if i + 1 ≤ j then l (i + 1) else w1.heap.size) u (if i = j then X else f i) (if i = j then Y else g i)
  by_cases hij : i = j
  ·subst hij
   rw [ht] at hu; cases hu
   rw [if_pos rfl,if_pos rfl,if_pos (Nat.le_refl _),if_neg (by omega)]
   have hm := h2 0 i (Nat.zero_le _) (Nat.le_refl _)
   exact (hf.wide (show l i ≤ lo by omega) (Nat.le_refl _)).onto (fun k g1 g2 => put5_heap _ _ _ _ _ _ _ _ _ (by omega))
  ·rw [if_neg hij,if_neg hij,if_pos (by omega),if_pos (by omega)]
   have hm := h2 0 i (Nat.zero_le _) (by omega)
   have hn := h2 (i + 1) j (by omega) (Nat.le_refl _)
   exact (h4 i u (by omega) hu).onto (fun k g1 g2 => by rw [put5_heap _ _ _ _ _ _ _ _ _ (by omega)]; exact hb.block k (by omega))
theorem part_done {w : World} {b : Nat} {L : List VT} (hp : Part w b L L.length) (hr : Row w b 29 (L.length * 5)) (hl : L.length ≤ 1000000) (lo : Nat) (hlo : lo ≤ b) : LF w lo w.heap.size L (.slice (some ⟨b,0,none⟩) L.length L.length) := by
 obtain ⟨l,f,g,h0,h1,h2,h3,h4⟩ := hp
 exact ⟨b,l,f,g,⟨_,rfl,by unfold maxLen; omega,fun _ => ⟨rfl,hr⟩⟩,fun _ => ⟨hlo,h0,h1⟩,h2,fun i t h => by rw [add_at]; exact h3 i t (lt_of_some h) h,fun i t h => h4 i t (lt_of_some h) h⟩
set_option maxRecDepth 100000 in
set_option maxHeartbeats 1000000 in
theorem copylist_of (L : List VT) (x : Value) (w : World) (hC : ∀ (i : Nat) (t : VT),L[i]? = some t → CopyOk t) (hx : InL w L x) (hl : L.length ≤ 1000000) :
  Calls Tryz.prog 111 #[x] w fun e w' => ∃ X,e = .returned X ∧ LF w' w.heap.size w'.heap.size L X ∧ Below w.heap.size w w' := by
 obtain ⟨a,f,g,⟨o,cap,rfl,hn1,hn2,ho⟩,cL,rL⟩ := hx
 unfold maxLen at hn2
 by_cases h0 : L.length = 0
 ·have hL : L = [] := List.length_eq_zero_iff.1 h0
  subst hL
  go_enter Tryz.func111,Tryz.ntmps111
  go_wp2_with fail
  go_ret
  exact ⟨_,rfl,lf_nil _ _ _,Below.refl _ _⟩
 ·obtain rfl := ho (by omega)
  have hmk := Tryz.made27 L.length hl
  have hne : ((L.length : Int) == 0) = false := by rw [beq_eq_false_iff_ne]; omega
  have HC := hid hC
  have H0 := hid h0
  clear hC h0
  go_enter Tryz.func111,Tryz.ntmps111
  go_wp2_with fail
  have hz : (madeCells #[.int .i64 0,.int .i64 0,.string ⟨#[]⟩,.slice none 0 0,.slice none 0 0] (L.length * 5)).size = L.length * 5 := size_madeCells _ _
  have HNEW := hid (Row.new w (madeCells #[.int .i64 0,.int .i64 0,.string ⟨#[]⟩,.slice none 0 0,.slice none 0 0] (L.length * 5)) 29)
  rw [hz] at HNEW
  clear hz
  generalize madeCells #[.int .i64 0,.int .i64 0,.string ⟨#[]⟩,.slice none 0 0,.slice none 0 0] (L.length * 5) = cells at HNEW ⊢
  clear hmk
  go_loopw [14] (fun i wr => ∃ j : Nat,j ≤ L.length ∧ i = .int .i64 j ∧ Below w.heap.size w wr ∧ Hid (Row wr w.heap.size 29 (L.length * 5)) ∧ Hid (Part wr w.heap.size L j)) (fun i _ => L.length - (intOf i).toNat)
  case atStart =>
   exact ⟨0,Nat.zero_le _,rfl,(Below.refl _ _).alloc (Nat.le_refl _) _,HNEW,⟨fun _ => w.heap.size + 1,fun _ => .nilIface,fun _ => .nilIface,Nat.lt_succ_self _,by simp,fun _ _ _ _ => Nat.le_refl _,fun i t h => absurd h (Nat.not_lt_zero _),fun i t h => absurd h (Nat.not_lt_zero _)⟩⟩
  case round =>
   obtain ⟨j,hj,rfl,hbw,HRow,HPart⟩ := hrel
   by_cases hlt : j < L.length
   ·obtain ⟨t,ht⟩ : ∃ t,L[j]? = some t := ⟨L[j],List.getElem?_eq_getElem hlt⟩
    obtain ⟨d0,d1,d2,d3,d4⟩ := (cL j t ht).onto hbw
    obtain ⟨o1,n1,c1,o2,n2,c2,hp,hq⟩ := hv_slices (rL j t ht)
    have HR := hid ((rL j t ht).onto hbw)
    rw [hp,hq] at HR
    rw [hp] at d3
    rw [hq] at d4
    clear hp hq
    have HSTEP : Hid (∀ X : World,Below wr.heap.size wr X → Calls Tryz.prog 63 #[vv t (.slice o1 n1 c1) (.slice o2 n2 c2)] X fun e w1 => ∃ X' Y',e = .returned (vv t X' Y') ∧ HF w1 wr.heap.size w1.heap.size t X' Y' ∧ Below wr.heap.size wr w1) :=
     fun X hX => (HC.out j t ht _ _ X (HR.out.onto hX)).mono fun e w1 ⟨X',Y',he,hf,hb⟩ => ⟨X',Y',he,hf.wide hX.size (Nat.le_refl _),vonto hX hb⟩
    simp only [vv] at HSTEP
    have hbs : w.heap.size < wr.heap.size := HRow.out.lt
    go_wp2_with fail
    go_at_call 63
    refine (HSTEP.out _ ?_).mono ?_
    ·repeat (first | exact Below.refl _ _ | apply valloc_bel | (refine vset_bel ?_ (by simp)))
    rintro e w1 ⟨X,Y,rfl,hf1,hb1⟩
    obtain ⟨p1,m1,k1,p2,m2,k2,rfl,rfl⟩ := hv_slices hf1.hv
    have HF1 := hid hf1
    clear hf1
    have HR1 := hid (HRow.out.onto (hb1.block _ hbs))
    obtain ⟨u0,e0⟩ := HR1.out.cell (o := j * 5) (by omega)
    obtain ⟨u1,e1⟩ := HR1.out.cell (o := j * 5 + 1) (by omega)
    obtain ⟨u2,e2⟩ := HR1.out.cell (o := j * 5 + 2) (by omega)
    obtain ⟨u3,e3⟩ := HR1.out.cell (o := j * 5 + 3) (by omega)
    obtain ⟨u4,e4⟩ := HR1.out.cell (o := j * 5 + 4) (by omega)
    have z0 := HR1.out.frozen
    go_wp2_with fail
    go_roundw
    case rel => exact ⟨j + 1,hlt,val_int (by omega),vset_bel (vset_bel (vset_bel (vset_bel (vset_bel (vonto hbw hb1) (Nat.le_refl _)) (Nat.le_refl _)) (Nat.le_refl _)) (Nat.le_refl _)) (Nat.le_refl _),put5_row HR1.out _ _ _ _ _ _ _,part_next HPart.out hb1 ht HR1.out _ (Nat.le_refl _) HF1.out⟩
    case measure => simp [intOf]; omega
   ·have hjL : j = L.length := by omega
    subst hjL
    go_wp2_with fail
    go_ret
    exact ⟨_,rfl,part_done HPart.out HRow.out hl _ (Nat.le_refl _),hbw⟩
def put6 (w : World) (b o : Nat) (v0 v1 v2 v3 v4 v5 : Value) : World := (((((w.setCell ⟨b,o,none⟩ v0).setCell ⟨b,o + 1,none⟩ v1).setCell ⟨b,o + 2,none⟩ v2).setCell ⟨b,o + 3,none⟩ v3).setCell ⟨b,o + 4,none⟩ v4).setCell ⟨b,o + 5,none⟩ v5
theorem put6_eq (w : World) (b o : Nat) (v0 v1 v2 v3 v4 v5 : Value) : put6 w b o v0 v1 v2 v3 v4 v5 = put5 (w.setCell ⟨b,o,none⟩ v0) b (o + 1) v1 v2 v3 v4 v5 := rfl
theorem put6_row {w : World} {b m : Nat} {t : TypeId} (h : Row w b t m) (b' o : Nat) (v0 v1 v2 v3 v4 v5 : Value) : Row (put6 w b' o v0 v1 v2 v3 v4 v5) b t m := by rw [put6_eq]; exact put5_row (h.set _ _) _ _ _ _ _ _ _
theorem put6_heap (w : World) (b o : Nat) (v0 v1 v2 v3 v4 v5 : Value) (k : Nat) (h : k ≠ b) : (put6 w b o v0 v1 v2 v3 v4 v5).heap[k]? = w.heap[k]? := by
 rw [put6_eq,put5_heap _ _ _ _ _ _ _ _ _ h,Below.heap_setCell _ _ _ _ h]
theorem put6_size (w : World) (b o : Nat) (v0 v1 v2 v3 v4 v5 : Value) : (put6 w b o v0 v1 v2 v3 v4 v5).heap.size = w.heap.size := by simp [put6]
theorem put6_other (w : World) (b o : Nat) (v0 v1 v2 v3 v4 v5 : Value) (o' : Nat) (h : o' < o ∨ o + 6 ≤ o') : (put6 w b o v0 v1 v2 v3 v4 v5).cell? ⟨b,o',none⟩ = w.cell? ⟨b,o',none⟩ := by
 rw [put6_eq,put5_other _ _ _ _ _ _ _ _ _ (by omega),set_other _ _ _ _ _ _ (Or.inr (by omega))]
theorem put6_node {w : World} {b m : Nat} {ty : TypeId} (h : Row w b ty m) (o : Nat) (ho : o + 6 ≤ m) (v0 : Value) (T : VT) (x y : Value) : Node (put6 w b o v0 (.int .i64 T.kd) (.int .i64 T.nm) (.string T.st) x y) ⟨b,o + 1,none⟩ T x y := by
 rw [put6_eq]; exact put5_node (h.set _ _) _ (by omega) T x y
theorem put6_key {w : World} {b m : Nat} {ty : TypeId} (h : Row w b ty m) (o : Nat) (ho : o + 6 ≤ m) (v0 v1 v2 v3 v4 v5 : Value) : (put6 w b o v0 v1 v2 v3 v4 v5).cell? ⟨b,o,none⟩ = some v0 := by
 rw [put6_eq,put5_other _ _ _ _ _ _ _ _ _ (by omega)]; exact set_same h (by omega) _
def PartM (w : World) (b : Nat) (K : List ByteArray) (V : List VT) (j : Nat) : Prop := ∃ (l : Nat → Nat) (f g : Nat → Value),b < l 0 ∧ l j ≤ w.heap.size ∧ (∀ i k,i ≤ k → k ≤ j → l i ≤ l k) ∧
 (∀ i u,i < j → K[i]? = some u → w.cell? ⟨b,i * 6,none⟩ = some (.string u)) ∧
 (∀ i t,i < j → V[i]? = some t → Node w ⟨b,i * 6 + 1,none⟩ t (f i) (g i)) ∧ (∀ i t,i < j → V[i]? = some t → HF w (l i) (l (i + 1)) t (f i) (g i))
theorem partm_next {w w1 : World} {b : Nat} {K : List ByteArray} {V : List VT} {j : Nat} {c : ByteArray} {t : VT} {X Y : Value} (hp : PartM w b K V j) (hb : Below w.heap.size w w1) (hc : K[j]? = some c) (ht : V[j]? = some t) (hr : Row w1 b 60 (V.length * 6)) (lo : Nat) (hlo : w.heap.size ≤ lo) (hf : HF w1 lo w1.heap.size t X Y) :
  PartM (put6 w1 b (j * 6) (.string c) (.int .i64 t.kd) (.int .i64 t.nm) (.string t.st) X Y) b K V (j + 1) := by
 obtain ⟨l,f,g,h0,h1,h2,hK,h3,h4⟩ := hp
 have hj := lt_of_some ht
 have hs := hb.size
 refine ⟨fun i => if i ≤ j then l i else w1.heap.size,fun i => if i = j then X else f i,fun i => if i = j then Y else g i,?_,?_,?_,?_,?_,?_⟩
 ·simpa using h0
 ·rw [put6_size]; show (if j + 1 ≤ j then l (j + 1) else w1.heap.size) ≤ _; rw [if_neg (by omega)]; exact Nat.le_refl _
 ·intro i k hik hk
  show (if i ≤ j then l i else w1.heap.size) ≤ (if k ≤ j then l k else w1.heap.size)
  by_cases hkj : k ≤ j
  ·rw [if_pos hkj,if_pos (by omega)]; exact h2 i k hik hkj
  ·rw [if_neg hkj]
   by_cases hij : i ≤ j
   ·rw [if_pos hij]; have := h2 i j hij (Nat.le_refl _); omega
   ·rw [if_neg hij]; exact Nat.le_refl _
 ·intro i u hi hu
  by_cases hij : i = j
  ·subst hij
   rw [hc] at hu; cases hu
   exact put6_key hr _ (by omega) _ _ _ _ _ _
  ·rw [put6_other _ _ _ _ _ _ _ _ _ _ (by omega)]
   exact keepCell hb (hK i u (by omega) hu)
 ·intro i u hi hu
  show Node _ _ _ (if i = j then X else f i) (if i = j then Y else g i)
  by_cases hij : i = j
  ·subst hij
   rw [ht] at hu; cases hu
   rw [if_pos rfl,if_pos rfl]
   exact put6_node hr _ (by omega) _ t X Y
  ·rw [if_neg hij,if_neg hij]
   refine node_at ((h3 i u (by omega) hu).onto hb) (fun c hc => put6_other _ _ _ _ _ _ _ _ _ _ (by omega))
 ·intro i u hi hu
  show HF _ (if i ≤ j then l i else w1.heap.size) (if i + 1 ≤ j then l (i + 1) else w1.heap.size) u (if i = j then X else f i) (if i = j then Y else g i)
  by_cases hij : i = j
  ·subst hij
   rw [ht] at hu; cases hu
   rw [if_pos rfl,if_pos rfl,if_pos (Nat.le_refl _),if_neg (by omega)]
   have hm := h2 0 i (Nat.zero_le _) (Nat.le_refl _)
   exact (hf.wide (show l i ≤ lo by omega) (Nat.le_refl _)).onto (fun k g1 g2 => put6_heap _ _ _ _ _ _ _ _ _ _ (by omega))
  ·rw [if_neg hij,if_neg hij,if_pos (by omega),if_pos (by omega)]
   have hm := h2 0 i (Nat.zero_le _) (by omega)
   have hn := h2 (i + 1) j (by omega) (Nat.le_refl _)
   exact (h4 i u (by omega) hu).onto (fun k g1 g2 => by rw [put6_heap _ _ _ _ _ _ _ _ _ _ (by omega)]; exact hb.block k (by omega))
theorem partm_done {w : World} {b : Nat} {K : List ByteArray} {V : List VT} (hp : PartM w b K V V.length) (hr : Row w b 60 (V.length * 6)) (hl : V.length ≤ 1000000) (hK : K.length = V.length) (hu : ∀ (i : Nat) (u : ByteArray),K[i]? = some u → u.size ≤ maxLen) (lo : Nat) (hlo : lo ≤ b) : MF w lo w.heap.size K V (.slice (some ⟨b,0,none⟩) V.length V.length) := by
 obtain ⟨l,f,g,h0,h1,h2,hk,h3,h4⟩ := hp
 exact ⟨b,l,f,g,⟨_,rfl,by unfold maxLen; omega,fun _ => ⟨rfl,hr⟩⟩,hK,fun _ => ⟨hlo,h0,h1⟩,h2,fun i u h => by rw [add_at]; exact ⟨hk i u (by have := lt_of_some h; omega) h,hu i u h⟩,fun i t h => by rw [add_at]; exact h3 i t (lt_of_some h) h,fun i t h => h4 i t (lt_of_some h) h⟩
def PBox (W : World) (B : Nat) (c : ByteArray) (t : VT) (x y : Value) (w' : World) : Prop := w'.cell? ⟨B,0,none⟩ = some (.string c) ∧ w'.cell? ⟨B,1,none⟩ = some (.int .i64 t.kd) ∧ w'.cell? ⟨B,2,none⟩ = some (.int .i64 t.nm) ∧ w'.cell? ⟨B,3,none⟩ = some (.string t.st) ∧ w'.cell? ⟨B,4,none⟩ = some x ∧ w'.cell? ⟨B,5,none⟩ = some y ∧ Below W.heap.size W w'
set_option maxRecDepth 100000 in
set_option maxHeartbeats 1000000 in
theorem copypairs_of (K : List ByteArray) (V : List VT) (x : Value) (w : World) (hC : ∀ (i : Nat) (t : VT),V[i]? = some t → CopyOk t) (hx : InM w K V x) (hl : V.length ≤ 1000000) :
  Calls Tryz.prog 112 #[x] w fun e w' => ∃ X,e = .returned X ∧ MF w' w.heap.size w'.heap.size K V X ∧ Below w.heap.size w w' := by
 obtain ⟨a,f,g,⟨o,cap,rfl,hn1,hn2,ho⟩,hK,cK,cM,rM⟩ := hx
 unfold maxLen at hn2
 by_cases h0 : V.length = 0
 ·have hL : V = [] := List.length_eq_zero_iff.1 h0
  have hL' : K = [] := List.length_eq_zero_iff.1 (by omega)
  subst hL hL'
  go_enter Tryz.func112,Tryz.ntmps112
  go_wp2_with fail
  go_ret
  exact ⟨_,rfl,mf_nil _ _ _,Below.refl _ _⟩
 ·obtain rfl := ho (by omega)
  have hmk := Tryz.made34 V.length hl
  have hne : ((V.length : Int) == 0) = false := by rw [beq_eq_false_iff_ne]; omega
  have HC := hid hC
  have H0 := hid h0
  clear hC h0
  go_enter Tryz.func112,Tryz.ntmps112
  go_wp2_with fail
  have hz : (madeCells #[.string ⟨#[]⟩,.int .i64 0,.int .i64 0,.string ⟨#[]⟩,.slice none 0 0,.slice none 0 0] (V.length * 6)).size = V.length * 6 := size_madeCells _ _
  have HNEW := hid (Row.new w (madeCells #[.string ⟨#[]⟩,.int .i64 0,.int .i64 0,.string ⟨#[]⟩,.slice none 0 0,.slice none 0 0] (V.length * 6)) 60)
  rw [hz] at HNEW
  clear hz
  generalize madeCells #[.string ⟨#[]⟩,.int .i64 0,.int .i64 0,.string ⟨#[]⟩,.slice none 0 0,.slice none 0 0] (V.length * 6) = cells at HNEW ⊢
  clear hmk
  go_loopw [14] (fun i wr => ∃ j : Nat,j ≤ V.length ∧ i = .int .i64 j ∧ Below w.heap.size w wr ∧ Hid (Row wr w.heap.size 60 (V.length * 6)) ∧ Hid (PartM wr w.heap.size K V j)) (fun i _ => V.length - (intOf i).toNat)
  case atStart =>
   exact ⟨0,Nat.zero_le _,rfl,(Below.refl _ _).alloc (Nat.le_refl _) _,HNEW,⟨fun _ => w.heap.size + 1,fun _ => .nilIface,fun _ => .nilIface,Nat.lt_succ_self _,by simp,fun _ _ _ _ => Nat.le_refl _,fun i t h => absurd h (Nat.not_lt_zero _),fun i t h => absurd h (Nat.not_lt_zero _),fun i t h => absurd h (Nat.not_lt_zero _)⟩⟩
  case round =>
   obtain ⟨j,hj,rfl,hbw,HRow,HPart⟩ := hrel
   by_cases hlt : j < V.length
   ·obtain ⟨t,ht⟩ : ∃ t,V[j]? = some t := ⟨V[j],List.getElem?_eq_getElem hlt⟩
    obtain ⟨c,hc⟩ : ∃ c,K[j]? = some c := ⟨K[j],List.getElem?_eq_getElem (by omega)⟩
    have hnode := (cM j t ht).onto hbw
    simp only [Node,nx] at hnode
    obtain ⟨d0,d1,d2,d3,d4⟩ := hnode
    have k0 := keepCell hbw (cK j c hc).1
    obtain ⟨o1,n1,c1,o2,n2,c2,hp,hq⟩ := hv_slices (rM j t ht)
    have HR := hid ((rM j t ht).onto hbw)
    rw [hp,hq] at HR
    rw [hp] at d3
    rw [hq] at d4
    clear hp hq
    have HSTEP : Hid (∀ X : World,Below wr.heap.size wr X → Calls Tryz.prog 63 #[vv t (.slice o1 n1 c1) (.slice o2 n2 c2)] X fun e w1 => ∃ X' Y',e = .returned (vv t X' Y') ∧ HF w1 wr.heap.size w1.heap.size t X' Y' ∧ Below X.heap.size X w1) :=
     fun X hX => (HC.out j t ht _ _ X (HR.out.onto hX)).mono fun e w1 ⟨X',Y',he,hf,hb⟩ => ⟨X',Y',he,hf.wide hX.size (Nat.le_refl _),hb⟩
    simp only [vv] at HSTEP
    have hbs : w.heap.size < wr.heap.size := HRow.out.lt
    go_wp2_with fail
    have hne2 : w.heap.size ≠ wr.heap.size := by omega
    have HBOX : Hid (∀ q,Below wr.heap.size wr ((wr.alloc (.cells #[.string c,.int .i64 t.kd,.int .i64 t.nm,.string t.st,.slice o1 n1 c1,.slice o2 n2 c2] 60)).drewN q)) := fun q => vdrew_bel (valloc_bel (Below.refl _ _) _) q
    go_region_with (go_at_call 63; go_must (refine (HSTEP.out _ ?_).mono ?_; (exact HBOX.out 1); rintro e w1 ⟨X,Y,rfl,hf1,hb1⟩; have z9 : w1.cell? ⟨wr.heap.size,0,none⟩ = some (.string c) := keepCell hb1 (by simp); have HR1 := hid (HRow.out.onto ((vonto (HBOX.out 1) hb1).block _ hbs)); obtain ⟨p1,m1,k1,p2,m2,k2,rfl,rfl⟩ := hv_slices hf1.hv; have HF1 := hid hf1; have HB1 := hid (vonto (HBOX.out 1) hb1); clear hf1 hb1; obtain ⟨u0,e0⟩ := HR1.out.cell (o := j * 6) (by omega); obtain ⟨u1,e1⟩ := HR1.out.cell (o := j * 6 + 1) (by omega); obtain ⟨u2,e2⟩ := HR1.out.cell (o := j * 6 + 2) (by omega); obtain ⟨u3,e3⟩ := HR1.out.cell (o := j * 6 + 3) (by omega); obtain ⟨u4,e4⟩ := HR1.out.cell (o := j * 6 + 4) (by omega); obtain ⟨u5,e5⟩ := HR1.out.cell (o := j * 6 + 5) (by omega); have z0 := HR1.out.frozen))
    all_goals
     go_wp2_with fail
     go_roundw
     case rel => exact ⟨j + 1,hlt,val_int (by omega),vset_bel (vset_bel (vset_bel (vset_bel (vset_bel (vset_bel (vonto hbw HB1.out) (Nat.le_refl _)) (Nat.le_refl _)) (Nat.le_refl _)) (Nat.le_refl _)) (Nat.le_refl _)) (Nat.le_refl _),put6_row HR1.out _ _ _ _ _ _ _ _,partm_next HPart.out HB1.out hc ht HR1.out _ (Nat.le_refl _) HF1.out⟩
     case measure => simp [intOf]; omega
   ·have hjL : j = V.length := by omega
    subst hjL
    go_wp2_with fail
    go_ret
    exact ⟨_,rfl,partm_done HPart.out HRow.out hl hK (fun i u h => (cK i u h).2) _ (Nat.le_refl _),hbw⟩
theorem two_boxes {w w1 : World} {c d : Array Value} {t : TypeId} (h : Below ((w.alloc (.cells c t)).alloc (.cells d t)).heap.size ((w.alloc (.cells c t)).alloc (.cells d t)) w1) : Row w1 w.heap.size t c.size ∧ Row w1 (w.heap.size + 1) t d.size ∧ ∀ i u,c[i]? = some u → w1.cell? ⟨w.heap.size,i,none⟩ = some u := by
 have e : (w.alloc (.cells c t)).heap.size = w.heap.size + 1 := by simp
 refine ⟨((Row.new w c t).onto (Below.heap_alloc _ _ _ (by simp))).onto (h.block _ (by simp; omega)),?_,fun i u hu => ?_⟩
 ·have := Row.new (w.alloc (.cells c t)) d t
  rw [e] at this
  exact this.onto (h.block _ (by simp))
 ·refine keepCell h ?_
  rw [World.cell?_alloc_lt _ _ _ (by simp)]
  rw [World.cell?_alloc_new]; exact hu
theorem node_set3 {w : World} {b m : Nat} {ty : TypeId} {T : VT} {x y : Value} (h : Row w b ty m) (hm : 5 ≤ m) (hn : Node w ⟨b,0,none⟩ T x y) (x' : Value) : Node (w.setCell ⟨b,3,none⟩ x') ⟨b,0,none⟩ T x' y := by
 obtain ⟨h0,h1,h2,h3,h4⟩ := hn
 exact ⟨(set_other _ _ _ _ _ _ (Or.inr (by simp))).trans h0,(set_other _ _ _ _ _ _ (Or.inr (by simp))).trans h1,(set_other _ _ _ _ _ _ (Or.inr (by simp))).trans h2,set_same h (by omega) _,(set_other _ _ _ _ _ _ (Or.inr (by simp))).trans h4⟩
theorem hf_of' {w : World} {lo m hi : Nat} {T : VT} {x y : Value} (hw : (Lit.int .i64 T.kd).wf = true ∧ (Lit.int .i64 T.nm).wf = true ∧ T.st.size ≤ maxLen) (h1 : lo ≤ m) (h2 : m ≤ hi) (hL : LF w lo m T.ls x) (hM : MF w m hi T.ks T.vs y) : HF w lo hi T x y := by
 cases T with
 | mk k n s L K V => exact hf_of hw.1 hw.2.1 hw.2.2 h1 h2 hL hM
set_option maxRecDepth 100000 in
set_option maxHeartbeats 1000000 in
theorem vcopy_any : ∀ (N : Nat) (T : VT),szT T ≤ N → szT T ≤ 1000000 → CopyOk T := by
 intro N
 induction N with
 | zero => intro T h; have := szT_pos T; omega
 | succ N ih =>
 intro T hN hm x y w hT
 have hCL : ∀ (i : Nat) (t : VT),T.ls[i]? = some t → CopyOk t := fun i t h => ih t (by have := szT_ls T i t h; omega) (by have := szT_ls T i t h; omega)
 have hCM : ∀ (i : Nat) (t : VT),T.vs[i]? = some t → CopyOk t := fun i t h => ih t (by have := szT_vs T i t h; omega) (by have := szT_vs T i t h; omega)
 have hzl : T.ls.length ≤ 1000000 := by have := len_sz T; omega
 have hzv : T.vs.length ≤ 1000000 := by have := len_sz T; omega
 have HLL : Hid (∀ X : World,Below w.heap.size w X → Calls Tryz.prog 111 #[x] X fun e w' => ∃ X',e = .returned X' ∧ LF w' X.heap.size w'.heap.size T.ls X' ∧ Below X.heap.size X w') :=
  fun X hX => copylist_of T.ls x X hCL (hT.inL.onto hX) hzl
 have HMM : Hid (∀ X : World,Below w.heap.size w X → Calls Tryz.prog 112 #[y] X fun e w' => ∃ X',e = .returned X' ∧ MF w' X.heap.size w'.heap.size T.ks T.vs X' ∧ Below X.heap.size X w') :=
  fun X hX => copypairs_of T.ks T.vs y X hCM (hT.inM.onto hX) hzv
 have HW := hid hT.wfs
 obtain ⟨oL,nL,cL,oM,nM,cM,rfl,rfl⟩ := hv_slices hT
 have HT := hid hT
 clear hT hCL hCM ih
 simp only [vv]
 go_enter Tryz.func63,Tryz.ntmps63
 go_wp2_with fail
 go_at_call 111
 refine (HLL.out _ ?_).mono ?_
 ·repeat (first | exact Below.refl _ _ | apply valloc_bel | (refine vset_bel ?_ (by simp)))
 rintro e w1 ⟨X,rfl,HX,hb1⟩
 obtain ⟨pX,nX,cX,rfl⟩ := HX.slice
 have kc := (vkeeps hb1).1
 have kf := (vkeeps hb1).2
 have HB1 := hid hb1
 have HX1 := hid HX
 clear hb1 HX
 have hs1 : w.heap.size + 2 ≤ w1.heap.size := by have := HB1.out.size; simpa using this
 have hs2 : w.heap.size < w1.heap.size := by omega
 have hs3 : w.heap.size + 1 < w1.heap.size := by omega
 go_wp2_with fail
 go_at_call 112
 have HW1 := hid (vset_bel (ad := ⟨w.heap.size,3,none⟩) (v := .slice pX nX cX) (vonto (valloc_bel (valloc_bel (Below.refl w.heap.size w) _) _) HB1.out) (Nat.le_refl _))
 refine (HMM.out _ HW1.out).mono ?_
 rintro e w2 ⟨Y,rfl,HY,hb2⟩
 obtain ⟨pY,nY,cY,rfl⟩ := HY.slice
 have HB2 := hid hb2
 have HY1 := hid HY
 clear hb2 HY kc kf
 have hs4 : w1.heap.size ≤ w2.heap.size := by have := HB2.out.size; simpa using this
 obtain ⟨r0,r1,rc⟩ := two_boxes HB1.out
 have hn : Node w1 ⟨w.heap.size,0,none⟩ T (.slice oL nL cL) (.slice oM nM cM) := ⟨rc 0 _ rfl,rc 1 _ rfl,rc 2 _ rfl,rc 3 _ rfl,rc 4 _ rfl⟩
 have hn2 := (node_set3 r0 (Nat.le_refl _) hn (.slice pX nX cX)).onto HB2.out
 have R0 := hid ((r0.set ⟨w.heap.size,3,none⟩ (.slice pX nX cX)).onto (HB2.out.block _ (by simpa using hs2)))
 have R1 := hid ((r1.set ⟨w.heap.size,3,none⟩ (.slice pX nX cX)).onto (HB2.out.block _ (by simpa using hs3)))
 simp only [Node,Nat.zero_add] at hn2
 obtain ⟨q0,q1,q2,q3,q4⟩ := hn2
 clear r0 r1 rc hn
 obtain ⟨u0,e0⟩ := R1.out.cell (o := 0) (by decide)
 obtain ⟨u1,e1⟩ := R1.out.cell (o := 1) (by decide)
 obtain ⟨u2,e2⟩ := R1.out.cell (o := 2) (by decide)
 obtain ⟨u3,e3⟩ := R1.out.cell (o := 3) (by decide)
 obtain ⟨u4,e4⟩ := R1.out.cell (o := 4) (by decide)
 have z0 := R0.out.frozen
 have z1 := R1.out.frozen
 go_wp2_with fail
 have HE : ∀ k,w.heap.size + 2 ≤ k → (put5 (w2.setCell ⟨w.heap.size,4,none⟩ (.slice pY nY cY)) (w.heap.size + 1) 0 (.int .i64 T.kd) (.int .i64 T.nm) (.string T.st) (.slice pX nX cX) (.slice pY nY cY)).heap[k]? = w2.heap[k]? := by
  intro k hk
  rw [put5_heap _ _ _ _ _ _ _ _ _ (by omega),Below.heap_setCell _ _ _ _ (show k ≠ w.heap.size by omega)]
 have hsz : (put5 (w2.setCell ⟨w.heap.size,4,none⟩ (.slice pY nY cY)) (w.heap.size + 1) 0 (.int .i64 T.kd) (.int .i64 T.nm) (.string T.st) (.slice pX nX cX) (.slice pY nY cY)).heap.size = w2.heap.size := by rw [put5_size]; simp
 refine bodyPost_ret (v := vv T (.slice pX nX cX) (.slice pY nY cY)) (by simp [results,Tryz.results63,go_sem,vv,e0,e1,e2,e3,e4]) rfl ⟨_,_,rfl,?_,?_⟩
 ·change HF (put5 (w2.setCell ⟨w.heap.size,4,none⟩ (.slice pY nY cY)) (w.heap.size + 1) 0 (.int .i64 T.kd) (.int .i64 T.nm) (.string T.st) (.slice pX nX cX) (.slice pY nY cY)) w.heap.size (put5 (w2.setCell ⟨w.heap.size,4,none⟩ (.slice pY nY cY)) (w.heap.size + 1) 0 (.int .i64 T.kd) (.int .i64 T.nm) (.string T.st) (.slice pX nX cX) (.slice pY nY cY)).heap.size T _ _
  rw [hsz]
  have hLF := HX1.out
  have hMF := HY1.out
  simp only [World.size_alloc,World.size_setCell] at hLF hMF
  refine hf_of' (m := w1.heap.size) HW.out (by omega) hs4 ?_ ?_
  ·refine (hLF.onto (fun k g1 g2 => ?_)).wide (by omega) (Nat.le_refl _)
   rw [HE k (by omega),HB2.out.block k (by simpa using g2),Below.heap_setCell _ _ _ _ (show k ≠ w.heap.size by omega)]
  ·exact hMF.onto (fun k g1 g2 => HE k (by omega))
 ·exact vset_bel (vset_bel (vset_bel (vset_bel (vset_bel (vset_bel (vonto HW1.out HB2.out) (by simp)) (by simp)) (by simp)) (by simp)) (by simp)) (by simp)
end Go.Proofs.YteimbjamnfkapaaGreatDoor
