/- The document's own Copy of a tree, walked. -/
import Derived.Test.YtgfkhnpbkdddbaaGreatDoorVHeld
import Derived.Test.YtgfkhnpbkdddbaaGreatDoorVSpoil
import Derived.Test.YtgfkhnpbkdddbaaGreatDoorVSorts
import Derived.Deep.RegionHeldLaw
import Derived.Deep.LoopGhost
namespace Go.Proofs.YtgfkhnpbkdddbaaGreatDoor
open Go.RowKit

theorem Tryz.info27 : (Tryz.prog.info? 28).map (fun i => (i.zero, i.size, i.bytes)) = some (some (.agg #[.int .i64 0, .int .i64 0, .string ⟨#[]⟩, .slice none 0 0, .slice none 0 0]), 5, 80) := by kernel_rfl
/-- what the document's Copy does to a tree -/
def RCopyOk (t : VT) : Prop := ∀ (x y : Value) (w : World), HV w t x y → Calls Tryz.prog 29 #[vv t x y] w fun e w' => ∃ X Y, e = .returned (vv t X Y) ∧ HS w' (fun k => w.heap.size ≤ k ∧ k < w'.heap.size) t X Y ∧ Below w.heap.size w w'
/-- parts that have been copied, none of them in the row itself -/
def Copied (w : World) (lo : Nat) (v : Value) (L : List VT) (j : Nat) (E : List (VT × Value × Value)) : Prop :=
  E.length = j ∧ E.map (·.1) = L.take j ∧ w.ownsRow lo 28 5 v j (E.flatMap vc) ∧ ∀ e ∈ E, HS w (fun k => lo ≤ k ∧ k < w.heap.size ∧ ¬ v.ownBlock = some k) e.1 e.2.1 e.2.2
theorem vc_one (t : VT) (o : Option Addr) (n c : Nat) (o' : Option Addr) (n' c' : Nat) : ∀ u ∈ vc (t, .slice o n c, .slice o' n' c'), u.oneCell' = true := by
  intro u hu
  unfold vc at hu
  simp at hu
  rcases hu with rfl | rfl | rfl | rfl | rfl <;> rfl
theorem copied_next {w w1 w2 w3 : World} {lo : Nat} {v : Value} {L : List VT} {j : Nat} {E : List (VT × Value × Value)} {t : VT} {X Y : Value} {g cap : Nat} (h : Copied w lo v L j E) (ht : L[j]? = some t) (hlo : lo ≤ w.heap.size)
    (hb1 : Below w.heap.size w w1) (hX : HS w1 (fun k => w.heap.size ≤ k ∧ k < w1.heap.size) t X Y) (hb2 : Below w1.heap.size w1 w2) (hg : w2.grownBy w3 v.ownBlock) (hat : v.ownBlock = some g ∨ g = w2.heap.size) (_hlt : g < w3.heap.size)
    (hown : w3.ownsRow lo 28 5 (.slice (some ⟨g, 0, none⟩) (j + 1) cap) (j + 1) (E.flatMap vc ++ vc (t, X, Y))) : Copied w3 lo (.slice (some ⟨g, 0, none⟩) (j + 1) cap) L (j + 1) (E ++ [(t, X, Y)]) := by
  obtain ⟨h1, h2, h3, h4⟩ := h
  have s1 := hb1.size
  have s2 := hb2.size
  have s3 := hg.size
  have hv := h3.lt
  have hne : ∀ k, (lo ≤ k ∧ k < w.heap.size ∧ ¬ v.ownBlock = some k) ∨ (w.heap.size ≤ k ∧ k < w1.heap.size) → ¬ g = k := by
    intro k hk e
    subst e
    rcases hat with h | h
    · have := hv g h
      rcases hk with hk | hk
      · exact hk.2.2 h
      · omega
    · omega
  refine ⟨by simp [h1], ?_, by rw [List.flatMap_append]; simpa using hown, fun e he => ?_⟩
  · rw [List.map_append, h2, List.take_add_one, ht]; rfl
  · rcases List.mem_append.1 he with he | he
    · refine (h4 e he).onto (fun k hk => ?_) (fun k hk => ⟨hk.1, by omega, fun e => hne k (Or.inl hk) (by injection e)⟩)
      rw [hg.block k (by omega) (fun e => hk.2.2 e.symm), hb2.block k (by omega), hb1.block k (by omega)]
    · obtain rfl := List.mem_singleton.1 he
      refine hX.onto (fun k hk => ?_) (fun k hk => ⟨by omega, by omega, fun e => hne k (Or.inr hk) (by injection e)⟩)
      rw [hg.block k (by omega) (fun e => by have := hv k e.symm; omega), hb2.block k (by omega)]
theorem Copied.ls {w : World} {lo : Nat} {v : Value} {L : List VT} {E : List (VT × Value × Value)} (h : Copied w lo v L L.length E) : LS w (fun k => lo ≤ k ∧ k < w.heap.size) L v := by
  obtain ⟨h1, h2, h3, h4⟩ := h
  rw [List.take_length] at h2
  have := own_ls (S := fun k => lo ≤ k ∧ k < w.heap.size) (by rw [h1]; exact h3) (fun e he => (h4 e he).onto (fun _ _ => rfl) (fun k hk => ⟨hk.1, hk.2.1⟩)) (fun g hg => h3.lt g hg)
  rw [h2] at this; exact this
/-- pairs that have been copied, none of them in the row itself -/
def CopiedM (w : World) (lo : Nat) (v : Value) (K : List ByteArray) (V : List VT) (j : Nat) (E : List (ByteArray × VT × Value × Value)) : Prop :=
  E.length = j ∧ E.map (·.1) = K.take j ∧ E.map (·.2.1) = V.take j ∧ w.ownsRow lo 42 6 v j (E.flatMap pc) ∧ ∀ e ∈ E, e.1.size ≤ maxLen ∧ HS w (fun k => lo ≤ k ∧ k < w.heap.size ∧ ¬ v.ownBlock = some k) e.2.1 e.2.2.1 e.2.2.2
theorem copiedm_next {w w1 w2 w3 : World} {lo : Nat} {v : Value} {K : List ByteArray} {V : List VT} {j : Nat} {E : List (ByteArray × VT × Value × Value)} {c : ByteArray} {t : VT} {X Y : Value} {g cap : Nat} (h : CopiedM w lo v K V j E) (hc : K[j]? = some c) (hcs : c.size ≤ maxLen) (ht : V[j]? = some t) (hlo : lo ≤ w.heap.size)
    (hb1 : Below w.heap.size w w1) (hX : HS w1 (fun k => w.heap.size ≤ k ∧ k < w1.heap.size) t X Y) (hb2 : Below w1.heap.size w1 w2) (hg : w2.grownBy w3 v.ownBlock) (hat : v.ownBlock = some g ∨ g = w2.heap.size) (_hlt : g < w3.heap.size)
    (hown : w3.ownsRow lo 42 6 (.slice (some ⟨g, 0, none⟩) (j + 1) cap) (j + 1) (E.flatMap pc ++ pc (c, t, X, Y))) : CopiedM w3 lo (.slice (some ⟨g, 0, none⟩) (j + 1) cap) K V (j + 1) (E ++ [(c, t, X, Y)]) := by
  obtain ⟨h1, h2, h2', h3, h4⟩ := h
  have s1 := hb1.size
  have s2 := hb2.size
  have s3 := hg.size
  have hv := h3.lt
  have hne : ∀ k, (lo ≤ k ∧ k < w.heap.size ∧ ¬ v.ownBlock = some k) ∨ (w.heap.size ≤ k ∧ k < w1.heap.size) → ¬ g = k := by
    intro k hk e
    subst e
    rcases hat with h | h
    · have := hv g h
      rcases hk with hk | hk
      · exact hk.2.2 h
      · omega
    · omega
  refine ⟨by simp [h1], ?_, ?_, by rw [List.flatMap_append]; simpa using hown, fun e he => ?_⟩
  · rw [List.map_append, h2, List.take_add_one, hc]; rfl
  · rw [List.map_append, h2', List.take_add_one, ht]; rfl
  · rcases List.mem_append.1 he with he | he
    · refine ⟨(h4 e he).1, (h4 e he).2.onto (fun k hk => ?_) (fun k hk => ⟨hk.1, by omega, fun e => hne k (Or.inl hk) (by injection e)⟩)⟩
      rw [hg.block k (by omega) (fun e => hk.2.2 e.symm), hb2.block k (by omega), hb1.block k (by omega)]
    · obtain rfl := List.mem_singleton.1 he
      refine ⟨hcs, hX.onto (fun k hk => ?_) (fun k hk => ⟨by omega, by omega, fun e => hne k (Or.inr hk) (by injection e)⟩)⟩
      rw [hg.block k (by omega) (fun e => by have := hv k e.symm; omega), hb2.block k (by omega)]
theorem CopiedM.ms {w : World} {lo : Nat} {v : Value} {K : List ByteArray} {V : List VT} {E : List (ByteArray × VT × Value × Value)} (h : CopiedM w lo v K V V.length E) (hK : K.length = V.length) : MS w (fun k => lo ≤ k ∧ k < w.heap.size) K V v := by
  obtain ⟨h1, h2, h2', h3, h4⟩ := h
  rw [List.take_length] at h2'
  rw [← hK, List.take_length] at h2
  have := own_ms (S := fun k => lo ≤ k ∧ k < w.heap.size) (by rw [h1]; exact h3) (fun e he => ⟨(h4 e he).1, (h4 e he).2.onto (fun _ _ => rfl) (fun k hk => ⟨hk.1, hk.2.1⟩)⟩) (fun g hg => h3.lt g hg)
  rw [h2, h2'] at this; exact this
end Go.Proofs.YtgfkhnpbkdddbaaGreatDoor
