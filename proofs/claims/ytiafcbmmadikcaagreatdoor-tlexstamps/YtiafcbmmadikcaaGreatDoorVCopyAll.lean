import Derived.Test.YtiafcbmmadikcaaGreatDoorVBase
import Derived.Deep.LoopGhost
import Derived.Deep.RegionHeld
/- value.copyList, walked over what Copy does to each part. -/
/- value.copyPairs, walked over what Copy does to each part. -/
/- value.Copy, walked: another tree, the same, in blocks of its own. -/
namespace Go.Proofs.YtiafcbmmadikcaaGreatDoor
open Go.RowKit

/-- what has been copied so far -/
def Part (w : World) (b : Nat) (L : List VT) (j : Nat) : Prop := ∃ (l : Nat → Nat) (f g : Nat → Value), b < l 0 ∧ l j ≤ w.heap.size ∧ (∀ i k, i ≤ k → k ≤ j → l i ≤ l k) ∧
  (∀ i t, i < j → L[i]? = some t → Node w ⟨b, i * 5, none⟩ t (f i) (g i)) ∧ (∀ i t, i < j → L[i]? = some t → HF w (l i) (l (i + 1)) t (f i) (g i))
theorem part_next {w w1 : World} {b : Nat} {L : List VT} {j : Nat} {t : VT} {X Y : Value} (hp : Part w b L j) (hb : Below w.heap.size w w1) (ht : L[j]? = some t) (hr : Row w1 b 27 (L.length * 5)) (lo : Nat) (hlo : w.heap.size ≤ lo) (hf : HF w1 lo w1.heap.size t X Y) :
    Part (put5 w1 b (j * 5) (.int .i64 t.kd) (.int .i64 t.nm) (.string t.st) X Y) b L (j + 1) := by
  obtain ⟨l, f, g, h0, h1, h2, h3, h4⟩ := hp
  have hj := lt_of_some ht
  have hs := hb.size
  refine ⟨fun i => if i ≤ j then l i else w1.heap.size, fun i => if i = j then X else f i, fun i => if i = j then Y else g i, ?_, ?_, ?_, ?_, ?_⟩
  · simpa using h0
  · rw [put5_size]; show (if j + 1 ≤ j then l (j + 1) else w1.heap.size) ≤ _; rw [if_neg (by omega)]; exact Nat.le_refl _
  · intro i k hik hk
    show (if i ≤ j then l i else w1.heap.size) ≤ (if k ≤ j then l k else w1.heap.size)
    by_cases hkj : k ≤ j
    · rw [if_pos hkj, if_pos (by omega)]; exact h2 i k hik hkj
    · rw [if_neg hkj]
      by_cases hij : i ≤ j
      · rw [if_pos hij]; have := h2 i j hij (Nat.le_refl _); omega
      · rw [if_neg hij]; exact Nat.le_refl _
  · intro i u hi hu
    show Node _ _ _ (if i = j then X else f i) (if i = j then Y else g i)
    by_cases hij : i = j
    · subst hij
      rw [ht] at hu; cases hu
      rw [if_pos rfl, if_pos rfl]
      exact put5_node hr _ (by omega) t X Y
    · rw [if_neg hij, if_neg hij]
      refine node_at ((h3 i u (by omega) hu).onto hb) (fun c hc => put5_other _ _ _ _ _ _ _ _ _ (by omega))
  · intro i u hi hu
    show HF _ (if i ≤ j then l i else w1.heap.size) (if i + 1 ≤ j then l (i + 1) else w1.heap.size) u (if i = j then X else f i) (if i = j then Y else g i)
    by_cases hij : i = j
    · subst hij
      rw [ht] at hu; cases hu
      rw [if_pos rfl, if_pos rfl, if_pos (Nat.le_refl _), if_neg (by omega)]
      have hm := h2 0 i (Nat.zero_le _) (Nat.le_refl _)
      exact (hf.wide (show l i ≤ lo by omega) (Nat.le_refl _)).onto (fun k g1 g2 => put5_heap _ _ _ _ _ _ _ _ _ (by omega))
    · rw [if_neg hij, if_neg hij, if_pos (by omega), if_pos (by omega)]
      have hm := h2 0 i (Nat.zero_le _) (by omega)
      have hn := h2 (i + 1) j (by omega) (Nat.le_refl _)
      exact (h4 i u (by omega) hu).onto (fun k g1 g2 => by rw [put5_heap _ _ _ _ _ _ _ _ _ (by omega)]; exact hb.block k (by omega))
theorem part_done {w : World} {b : Nat} {L : List VT} (hp : Part w b L L.length) (hr : Row w b 27 (L.length * 5)) (hl : L.length ≤ 1000000) (lo : Nat) (hlo : lo ≤ b) : LF w lo w.heap.size L (.slice (some ⟨b, 0, none⟩) L.length L.length) := by
  obtain ⟨l, f, g, h0, h1, h2, h3, h4⟩ := hp
  exact ⟨b, l, f, g, ⟨_, rfl, by unfold maxLen; omega, fun _ => ⟨rfl, hr⟩⟩, fun _ => ⟨hlo, h0, h1⟩, h2, fun i t h => by rw [add_at]; exact h3 i t (lt_of_some h) h, fun i t h => h4 i t (lt_of_some h) h⟩
end Go.Proofs.YtiafcbmmadikcaaGreatDoor
namespace Go.Proofs.YtiafcbmmadikcaaGreatDoor
open Go.RowKit

def put6 (w : World) (b o : Nat) (v0 v1 v2 v3 v4 v5 : Value) : World := (((((w.setCell ⟨b, o, none⟩ v0).setCell ⟨b, o + 1, none⟩ v1).setCell ⟨b, o + 2, none⟩ v2).setCell ⟨b, o + 3, none⟩ v3).setCell ⟨b, o + 4, none⟩ v4).setCell ⟨b, o + 5, none⟩ v5
theorem put6_eq (w : World) (b o : Nat) (v0 v1 v2 v3 v4 v5 : Value) : put6 w b o v0 v1 v2 v3 v4 v5 = put5 (w.setCell ⟨b, o, none⟩ v0) b (o + 1) v1 v2 v3 v4 v5 := rfl
theorem put6_row {w : World} {b m : Nat} {t : TypeId} (h : Row w b t m) (b' o : Nat) (v0 v1 v2 v3 v4 v5 : Value) : Row (put6 w b' o v0 v1 v2 v3 v4 v5) b t m := by rw [put6_eq]; exact put5_row (h.set _ _) _ _ _ _ _ _ _
theorem put6_heap (w : World) (b o : Nat) (v0 v1 v2 v3 v4 v5 : Value) (k : Nat) (h : k ≠ b) : (put6 w b o v0 v1 v2 v3 v4 v5).heap[k]? = w.heap[k]? := by
  rw [put6_eq, put5_heap _ _ _ _ _ _ _ _ _ h, Below.heap_setCell _ _ _ _ h]
theorem put6_size (w : World) (b o : Nat) (v0 v1 v2 v3 v4 v5 : Value) : (put6 w b o v0 v1 v2 v3 v4 v5).heap.size = w.heap.size := by simp [put6]
theorem put6_other (w : World) (b o : Nat) (v0 v1 v2 v3 v4 v5 : Value) (o' : Nat) (h : o' < o ∨ o + 6 ≤ o') : (put6 w b o v0 v1 v2 v3 v4 v5).cell? ⟨b, o', none⟩ = w.cell? ⟨b, o', none⟩ := by
  rw [put6_eq, put5_other _ _ _ _ _ _ _ _ _ (by omega), set_other _ _ _ _ _ _ (Or.inr (by omega))]
theorem put6_node {w : World} {b m : Nat} {ty : TypeId} (h : Row w b ty m) (o : Nat) (ho : o + 6 ≤ m) (v0 : Value) (T : VT) (x y : Value) : Node (put6 w b o v0 (.int .i64 T.kd) (.int .i64 T.nm) (.string T.st) x y) ⟨b, o + 1, none⟩ T x y := by
  rw [put6_eq]; exact put5_node (h.set _ _) _ (by omega) T x y
theorem put6_key {w : World} {b m : Nat} {ty : TypeId} (h : Row w b ty m) (o : Nat) (ho : o + 6 ≤ m) (v0 v1 v2 v3 v4 v5 : Value) : (put6 w b o v0 v1 v2 v3 v4 v5).cell? ⟨b, o, none⟩ = some v0 := by
  rw [put6_eq, put5_other _ _ _ _ _ _ _ _ _ (by omega)]; exact set_same h (by omega) _
/-- the pairs that have been copied so far -/
def PartM (w : World) (b : Nat) (K : List ByteArray) (V : List VT) (j : Nat) : Prop := ∃ (l : Nat → Nat) (f g : Nat → Value), b < l 0 ∧ l j ≤ w.heap.size ∧ (∀ i k, i ≤ k → k ≤ j → l i ≤ l k) ∧
  (∀ i u, i < j → K[i]? = some u → w.cell? ⟨b, i * 6, none⟩ = some (.string u)) ∧
  (∀ i t, i < j → V[i]? = some t → Node w ⟨b, i * 6 + 1, none⟩ t (f i) (g i)) ∧ (∀ i t, i < j → V[i]? = some t → HF w (l i) (l (i + 1)) t (f i) (g i))
theorem partm_next {w w1 : World} {b : Nat} {K : List ByteArray} {V : List VT} {j : Nat} {c : ByteArray} {t : VT} {X Y : Value} (hp : PartM w b K V j) (hb : Below w.heap.size w w1) (hc : K[j]? = some c) (ht : V[j]? = some t) (hr : Row w1 b 59 (V.length * 6)) (lo : Nat) (hlo : w.heap.size ≤ lo) (hf : HF w1 lo w1.heap.size t X Y) :
    PartM (put6 w1 b (j * 6) (.string c) (.int .i64 t.kd) (.int .i64 t.nm) (.string t.st) X Y) b K V (j + 1) := by
  obtain ⟨l, f, g, h0, h1, h2, hK, h3, h4⟩ := hp
  have hj := lt_of_some ht
  have hs := hb.size
  refine ⟨fun i => if i ≤ j then l i else w1.heap.size, fun i => if i = j then X else f i, fun i => if i = j then Y else g i, ?_, ?_, ?_, ?_, ?_, ?_⟩
  · simpa using h0
  · rw [put6_size]; show (if j + 1 ≤ j then l (j + 1) else w1.heap.size) ≤ _; rw [if_neg (by omega)]; exact Nat.le_refl _
  · intro i k hik hk
    show (if i ≤ j then l i else w1.heap.size) ≤ (if k ≤ j then l k else w1.heap.size)
    by_cases hkj : k ≤ j
    · rw [if_pos hkj, if_pos (by omega)]; exact h2 i k hik hkj
    · rw [if_neg hkj]
      by_cases hij : i ≤ j
      · rw [if_pos hij]; have := h2 i j hij (Nat.le_refl _); omega
      · rw [if_neg hij]; exact Nat.le_refl _
  · intro i u hi hu
    by_cases hij : i = j
    · subst hij
      rw [hc] at hu; cases hu
      exact put6_key hr _ (by omega) _ _ _ _ _ _
    · rw [put6_other _ _ _ _ _ _ _ _ _ _ (by omega)]
      exact keepCell hb (hK i u (by omega) hu)
  · intro i u hi hu
    show Node _ _ _ (if i = j then X else f i) (if i = j then Y else g i)
    by_cases hij : i = j
    · subst hij
      rw [ht] at hu; cases hu
      rw [if_pos rfl, if_pos rfl]
      exact put6_node hr _ (by omega) _ t X Y
    · rw [if_neg hij, if_neg hij]
      refine node_at ((h3 i u (by omega) hu).onto hb) (fun c hc => put6_other _ _ _ _ _ _ _ _ _ _ (by omega))
  · intro i u hi hu
    show HF _ (if i ≤ j then l i else w1.heap.size) (if i + 1 ≤ j then l (i + 1) else w1.heap.size) u (if i = j then X else f i) (if i = j then Y else g i)
    by_cases hij : i = j
    · subst hij
      rw [ht] at hu; cases hu
      rw [if_pos rfl, if_pos rfl, if_pos (Nat.le_refl _), if_neg (by omega)]
      have hm := h2 0 i (Nat.zero_le _) (Nat.le_refl _)
      exact (hf.wide (show l i ≤ lo by omega) (Nat.le_refl _)).onto (fun k g1 g2 => put6_heap _ _ _ _ _ _ _ _ _ _ (by omega))
    · rw [if_neg hij, if_neg hij, if_pos (by omega), if_pos (by omega)]
      have hm := h2 0 i (Nat.zero_le _) (by omega)
      have hn := h2 (i + 1) j (by omega) (Nat.le_refl _)
      exact (h4 i u (by omega) hu).onto (fun k g1 g2 => by rw [put6_heap _ _ _ _ _ _ _ _ _ _ (by omega)]; exact hb.block k (by omega))
theorem partm_done {w : World} {b : Nat} {K : List ByteArray} {V : List VT} (hp : PartM w b K V V.length) (hr : Row w b 59 (V.length * 6)) (hl : V.length ≤ 1000000) (hK : K.length = V.length) (hu : ∀ (i : Nat) (u : ByteArray), K[i]? = some u → u.size ≤ maxLen) (lo : Nat) (hlo : lo ≤ b) : MF w lo w.heap.size K V (.slice (some ⟨b, 0, none⟩) V.length V.length) := by
  obtain ⟨l, f, g, h0, h1, h2, hk, h3, h4⟩ := hp
  exact ⟨b, l, f, g, ⟨_, rfl, by unfold maxLen; omega, fun _ => ⟨rfl, hr⟩⟩, hK, fun _ => ⟨hlo, h0, h1⟩, h2, fun i u h => by rw [add_at]; exact ⟨hk i u (by have := lt_of_some h; omega) h, hu i u h⟩, fun i t h => by rw [add_at]; exact h3 i t (lt_of_some h) h, fun i t h => h4 i t (lt_of_some h) h⟩
/-- a pair's box -/
def PBox (W : World) (B : Nat) (c : ByteArray) (t : VT) (x y : Value) (w' : World) : Prop := w'.cell? ⟨B, 0, none⟩ = some (.string c) ∧ w'.cell? ⟨B, 1, none⟩ = some (.int .i64 t.kd) ∧ w'.cell? ⟨B, 2, none⟩ = some (.int .i64 t.nm) ∧ w'.cell? ⟨B, 3, none⟩ = some (.string t.st) ∧ w'.cell? ⟨B, 4, none⟩ = some x ∧ w'.cell? ⟨B, 5, none⟩ = some y ∧ Below W.heap.size W w'
end Go.Proofs.YtiafcbmmadikcaaGreatDoor
namespace Go.Proofs.YtiafcbmmadikcaaGreatDoor
open Go.RowKit

theorem two_boxes {w w1 : World} {c d : Array Value} {t : TypeId} (h : Below ((w.alloc (.cells c t)).alloc (.cells d t)).heap.size ((w.alloc (.cells c t)).alloc (.cells d t)) w1) : Row w1 w.heap.size t c.size ∧ Row w1 (w.heap.size + 1) t d.size ∧ ∀ i u, c[i]? = some u → w1.cell? ⟨w.heap.size, i, none⟩ = some u := by
  have e : (w.alloc (.cells c t)).heap.size = w.heap.size + 1 := by simp
  refine ⟨((Row.new w c t).onto (Below.heap_alloc _ _ _ (by simp))).onto (h.block _ (by simp; omega)), ?_, fun i u hu => ?_⟩
  · have := Row.new (w.alloc (.cells c t)) d t
    rw [e] at this
    exact this.onto (h.block _ (by simp))
  · refine keepCell h ?_
    rw [World.cell?_alloc_lt _ _ _ (by simp)]
    rw [World.cell?_alloc_new]; exact hu
theorem node_set3 {w : World} {b m : Nat} {ty : TypeId} {T : VT} {x y : Value} (h : Row w b ty m) (hm : 5 ≤ m) (hn : Node w ⟨b, 0, none⟩ T x y) (x' : Value) : Node (w.setCell ⟨b, 3, none⟩ x') ⟨b, 0, none⟩ T x' y := by
  obtain ⟨h0, h1, h2, h3, h4⟩ := hn
  exact ⟨(set_other _ _ _ _ _ _ (Or.inr (by simp))).trans h0, (set_other _ _ _ _ _ _ (Or.inr (by simp))).trans h1, (set_other _ _ _ _ _ _ (Or.inr (by simp))).trans h2, set_same h (by omega) _, (set_other _ _ _ _ _ _ (Or.inr (by simp))).trans h4⟩
theorem hf_of' {w : World} {lo m hi : Nat} {T : VT} {x y : Value} (hw : (Lit.int .i64 T.kd).wf = true ∧ (Lit.int .i64 T.nm).wf = true ∧ T.st.size ≤ maxLen) (h1 : lo ≤ m) (h2 : m ≤ hi) (hL : LF w lo m T.ls x) (hM : MF w m hi T.ks T.vs y) : HF w lo hi T x y := by
  cases T with
  | mk k n s L K V => exact hf_of hw.1 hw.2.1 hw.2.2 h1 h2 hL hM
end Go.Proofs.YtiafcbmmadikcaaGreatDoor
