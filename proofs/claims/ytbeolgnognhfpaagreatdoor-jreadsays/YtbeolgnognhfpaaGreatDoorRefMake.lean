import Derived.Test.YtbeolgnognhfpaaGreatDoorVCopyAll
import Derived.Deep.LoopGhost
import Derived.Test.YtbeolgnognhfpaaGreatDoorVHold
import Derived.Test.YtbeolgnognhfpaaGreatDoorVRise
import Derived.Deep.RegionHeldLaw
import Derived.Test.YtbeolgnognhfpaaGreatDoorOrders
import Derived.Deep.RegionHeld
import Derived.Test.YtbeolgnognhfpaaGreatDoorVPlain
import Derived.Test.YtbeolgnognhfpaaGreatDoorVPlus
/- spoil, walked: it changes nothing but the blocks of what it is handed. -/
/- The document's own Copy of a tree, walked. -/
/- The document's own Copy of a tree, walked: the walk. -/
/- A map's pairs as a list of entries; pairs that rise have but one order; a slice of one's own that holds pairs. -/
/- The document's own With: a map with one key more, or another value for a key; walked. -/
/- With on rising keys: one key more in its place, or the same keys; what Map makes of the same keys. -/
namespace Go.Proofs.YtbeolgnognhfpaaGreatDoor
open Go.RowKit

/-- a value's box is as it was -/
def Bx5 (w : World) (b : Nat) (v0 v1 v2 v3 v4 : Value) : Prop := w.cell? ⟨b, 0, none⟩ = some v0 ∧ w.cell? ⟨b, 1, none⟩ = some v1 ∧ w.cell? ⟨b, 2, none⟩ = some v2 ∧ w.cell? ⟨b, 3, none⟩ = some v3 ∧ w.cell? ⟨b, 4, none⟩ = some v4
theorem Bx5.same {w w' : World} {b : Nat} {v0 v1 v2 v3 v4 : Value} (h : Bx5 w b v0 v1 v2 v3 v4) (hb : w'.heap[b]? = w.heap[b]?) : Bx5 w' b v0 v1 v2 v3 v4 := by
  have e : ∀ o, w'.cell? ⟨b, o, none⟩ = w.cell? ⟨b, o, none⟩ := fun o => World.cell?_of_block (w := w) hb
  exact ⟨(e 0).trans h.1, (e 1).trans h.2.1, (e 2).trans h.2.2.1, (e 3).trans h.2.2.2.1, (e 4).trans h.2.2.2.2⟩
end Go.Proofs.YtbeolgnognhfpaaGreatDoor
namespace Go.Proofs.YtbeolgnognhfpaaGreatDoor
open Go.RowKit

theorem Tryz.info27 : (Tryz.prog.info? 27).map (fun i => (i.zero, i.size, i.bytes)) = some (some (.agg #[.int .i64 0, .int .i64 0, .string ⟨#[]⟩, .slice none 0 0, .slice none 0 0]), 5, 80) := by kernel_rfl
/-- parts that have been copied, none of them in the row itself -/
def Copied (w : World) (lo : Nat) (v : Value) (L : List VT) (j : Nat) (E : List (VT × Value × Value)) : Prop :=
  E.length = j ∧ E.map (·.1) = L.take j ∧ w.ownsRow lo 27 5 v j (E.flatMap vc) ∧ ∀ e ∈ E, HS w (fun k => lo ≤ k ∧ k < w.heap.size ∧ ¬ v.ownBlock = some k) e.1 e.2.1 e.2.2
theorem vc_one (t : VT) (o : Option Addr) (n c : Nat) (o' : Option Addr) (n' c' : Nat) : ∀ u ∈ vc (t, .slice o n c, .slice o' n' c'), u.oneCell' = true := by
  intro u hu
  unfold vc at hu
  simp at hu
  rcases hu with rfl | rfl | rfl | rfl | rfl <;> rfl
theorem Copied.ls {w : World} {lo : Nat} {v : Value} {L : List VT} {E : List (VT × Value × Value)} (h : Copied w lo v L L.length E) : LS w (fun k => lo ≤ k ∧ k < w.heap.size) L v := by
  obtain ⟨h1, h2, h3, h4⟩ := h
  rw [List.take_length] at h2
  have := own_ls (S := fun k => lo ≤ k ∧ k < w.heap.size) (by rw [h1]; exact h3) (fun e he => (h4 e he).onto (fun _ _ => rfl) (fun k hk => ⟨hk.1, hk.2.1⟩)) (fun g hg => h3.lt g hg)
  rw [h2] at this; exact this
/-- pairs that have been copied, none of them in the row itself -/
def CopiedM (w : World) (lo : Nat) (v : Value) (K : List ByteArray) (V : List VT) (j : Nat) (E : List (ByteArray × VT × Value × Value)) : Prop :=
  E.length = j ∧ E.map (·.1) = K.take j ∧ E.map (·.2.1) = V.take j ∧ w.ownsRow lo 54 6 v j (E.flatMap pc) ∧ ∀ e ∈ E, e.1.size ≤ maxLen ∧ HS w (fun k => lo ≤ k ∧ k < w.heap.size ∧ ¬ v.ownBlock = some k) e.2.1 e.2.2.1 e.2.2.2
theorem CopiedM.ms {w : World} {lo : Nat} {v : Value} {K : List ByteArray} {V : List VT} {E : List (ByteArray × VT × Value × Value)} (h : CopiedM w lo v K V V.length E) (hK : K.length = V.length) : MS w (fun k => lo ≤ k ∧ k < w.heap.size) K V v := by
  obtain ⟨h1, h2, h2', h3, h4⟩ := h
  rw [List.take_length] at h2'
  rw [← hK, List.take_length] at h2
  have := own_ms (S := fun k => lo ≤ k ∧ k < w.heap.size) (by rw [h1]; exact h3) (fun e he => ⟨(h4 e he).1, (h4 e he).2.onto (fun _ _ => rfl) (fun k hk => ⟨hk.1, hk.2.1⟩)⟩) (fun g hg => h3.lt g hg)
  rw [h2, h2'] at this; exact this
end Go.Proofs.YtbeolgnognhfpaaGreatDoor
namespace Go.Proofs.YtbeolgnognhfpaaGreatDoor
open Go.RowKit

/-- the three boxes of Copy -/
def CSt (w wr : World) (v0 v1 v2 v3 v4 cl cm : Value) : Prop := Bx5 wr w.heap.size v0 v1 v2 v3 v4 ∧ Row wr (w.heap.size + 1) 27 5 ∧ Row wr (w.heap.size + 2) 27 5 ∧ Bx5 wr (w.heap.size + 2) v0 v1 v2 cl cm ∧ Below w.heap.size w wr ∧ w.heap.size + 3 ≤ wr.heap.size
theorem CSt.onto {w wr w' : World} {v0 v1 v2 v3 v4 cl cm : Value} (h : CSt w wr v0 v1 v2 v3 v4 cl cm) (hb : Below (w.heap.size + 3) wr w') : CSt w w' v0 v1 v2 v3 v4 cl cm := by
  obtain ⟨h1, h2, h3, h4, h5, h6⟩ := h
  have hs := hb.size
  exact ⟨h1.same (hb.block _ (by omega)), h2.onto (hb.block _ (by omega)), h3.onto (hb.block _ (by omega)), h4.same (hb.block _ (by omega)), h5.trans (hb.mono (by omega)), by omega⟩
theorem CSt.set4 {w wr : World} {v0 v1 v2 v3 v4 cl cm : Value} (h : CSt w wr v0 v1 v2 v3 v4 cl cm) (u : Value) : CSt w (wr.setCell ⟨w.heap.size + 2, 4, none⟩ u) v0 v1 v2 v3 v4 cl u := by
  obtain ⟨h1, h2, h3, ⟨g0, g1, g2, g3, g4⟩, h5, h6⟩ := h
  refine ⟨h1.same (Below.heap_setCell _ _ _ _ (by simp)), h2.set _ _, h3.set _ _, ⟨?_, ?_, ?_, ?_, ?_⟩, vset_bel h5 (by simp), by simpa using h6⟩
  · rw [set_other _ _ _ _ _ _ (Or.inr (by omega))]; exact g0
  · rw [set_other _ _ _ _ _ _ (Or.inr (by omega))]; exact g1
  · rw [set_other _ _ _ _ _ _ (Or.inr (by omega))]; exact g2
  · rw [set_other _ _ _ _ _ _ (Or.inr (by omega))]; exact g3
  · exact set_same h3 (by omega) _
theorem set_grown (w : World) (b o : Nat) (u : Value) : w.grownBy (w.setCell ⟨b, o, none⟩ u) (some b) := ⟨rfl, rfl, rfl, by simp, fun k _ hk => Below.heap_setCell _ _ _ _ (fun e => hk (by rw [e]))⟩
theorem Copied.set {w : World} {lo : Nat} {v : Value} {L : List VT} {j : Nat} {E : List (VT × Value × Value)} (h : Copied w lo v L j E) (b o : Nat) (u : Value) (hb : b < lo) : Copied (w.setCell ⟨b, o, none⟩ u) lo v L j E := by
  obtain ⟨h1, h2, h3, h4⟩ := h
  refine ⟨h1, h2, h3.kept (set_grown w b o u) ?_, fun e he => (h4 e he).onto (fun k hk => Below.heap_setCell _ _ _ _ (by show k ≠ b; omega)) (fun k hk => by simpa using hk)⟩
  cases hv : v.ownBlock with
  | none => exact Or.inl rfl
  | some g => have := h3.lt g hv; exact Or.inr (fun e => by injection e with e; omega)
theorem CopiedM.set {w : World} {lo : Nat} {v : Value} {K : List ByteArray} {V : List VT} {j : Nat} {E : List (ByteArray × VT × Value × Value)} (h : CopiedM w lo v K V j E) (b o : Nat) (u : Value) (hb : b < lo) : CopiedM (w.setCell ⟨b, o, none⟩ u) lo v K V j E := by
  obtain ⟨h1, h2, h2', h3, h4⟩ := h
  refine ⟨h1, h2, h2', h3.kept (set_grown w b o u) ?_, fun e he => ⟨(h4 e he).1, (h4 e he).2.onto (fun k hk => Below.heap_setCell _ _ _ _ (by show k ≠ b; omega)) (fun k hk => by simpa using hk)⟩⟩
  cases hv : v.ownBlock with
  | none => exact Or.inl rfl
  | some g => have := h3.lt g hv; exact Or.inr (fun e => by injection e with e; omega)
theorem pc_one' (c : ByteArray) (t : VT) (o : Option Addr) (n k : Nat) (o' : Option Addr) (n' k' : Nat) : ∀ u ∈ pc (c, t, .slice o n k, .slice o' n' k'), u.oneCell' = true := by
  intro u hu
  unfold pc at hu
  simp at hu
  rcases hu with rfl | rfl | rfl | rfl | rfl | rfl <;> rfl
end Go.Proofs.YtbeolgnognhfpaaGreatDoor
namespace Go.Proofs.YtbeolgnognhfpaaGreatDoor
open Go.RowKit

/-- the keys rise, each once -/
def Strict (K : List ByteArray) : Prop := ∀ (i j : Nat) (a b : ByteArray), i < j → K[i]? = some a → K[j]? = some b → ltB a.data.toList b.data.toList = true
theorem Strict.ne {K : List ByteArray} (h : Strict K) {i j : Nat} {a b : ByteArray} (hij : i ≠ j) (ha : K[i]? = some a) (hb : K[j]? = some b) : ¬ a.data.toList = b.data.toList := by
  intro he
  rcases Nat.lt_or_gt_of_ne hij with h1 | h1
  · have := h i j a b h1 ha hb; rw [he, ltB_irr] at this; cases this
  · have := h j i b a h1 hb ha; rw [he, ltB_irr] at this; cases this
theorem Strict.find {K : List ByteArray} {V : List VT} (h : Strict K) {i : Nat} {c : ByteArray} {t : VT} (hc : K[i]? = some c) (ht : V[i]? = some t) : findK c K V = some t :=
  findK_some c K V i c t hc ht rfl (fun j c' hj hc' => h.ne (by omega) hc' hc)
theorem Strict.tail {a : ByteArray} {K : List ByteArray} (h : Strict (a :: K)) : Strict K := fun i j x y hij hx hy => h (i + 1) (j + 1) x y (by omega) (by simpa using hx) (by simpa using hy)
theorem Rising.tail {a : ByteArray × VT} {A : List (ByteArray × VT)} (h : Rising (a :: A)) : Rising A := fun i j x y hij hx hy => h (i + 1) (j + 1) x y (by omega) (by simpa using hx) (by simpa using hy)
/-- pairs in order, of which no two keys are one, have but one order -/
theorem sorted_one : ∀ (P A : List (ByteArray × VT)), Strict (P.map (·.1)) → Rising A → A.Perm P → A = P
  | [], A, _, _, h => by simpa using h
  | p :: P, [], _, _, h => by simp at h
  | p :: P, a :: A, hs, hr, h => by
    have hap : a = p := by
      have ha : a ∈ p :: P := h.subset (List.mem_cons_self ..)
      rcases List.mem_cons.1 ha with h1 | h1
      · exact h1
      · have hp : p ∈ a :: A := h.symm.subset (List.mem_cons_self ..)
        rcases List.mem_cons.1 hp with h2 | h2
        · exact h2.symm
        · exfalso
          obtain ⟨i, hi⟩ := List.getElem?_of_mem h1
          obtain ⟨j, hj⟩ := List.getElem?_of_mem h2
          have g1 := hs 0 (i + 1) p.1 a.1 (by omega) (by simp) (by simp [hi])
          have g2 := hr 0 (j + 1) a p (by omega) (by simp) (by simpa using hj)
          rw [g1] at g2; cases g2
    subst hap
    rw [sorted_one P A (by simpa using hs.tail) hr.tail (List.Perm.cons_inv h)]
theorem strict_adj {K : List ByteArray} (h : Strict K) : adjB K = false := by
  refine adj_no fun i hi => ?_
  obtain ⟨a, ha⟩ : ∃ c, K[i]? = some c := ⟨K[i], List.getElem?_eq_getElem (by omega)⟩
  obtain ⟨b, hb⟩ : ∃ c, K[i + 1]? = some c := ⟨K[i + 1], List.getElem?_eq_getElem hi⟩
  rw [keyAt_some ha, keyAt_some hb]
  exact h.ne (by omega) ha hb
/-- the entries from a place on, the last first -/
def backs (A : List (ByteArray × VT × Value × Value)) (j : Nat) : List (ByteArray × VT × Value × Value) := (A.drop (A.length - j)).reverse
/-- is the key among the last so many? -/
def hasB (A : List (ByteArray × VT × Value × Value)) (key : ByteArray) (j : Nat) : Bool := (backs A j).any fun a => decide (a.1.data.toList = key.data.toList)
end Go.Proofs.YtbeolgnognhfpaaGreatDoor
namespace Go.Proofs.YtbeolgnognhfpaaGreatDoor
open Go.RowKit

/-- one pair more, as With goes -/
def withE (key : ByteArray) (x : VT) (p q : Value) (acc : List (ByteArray × VT × Value × Value) × Bool) (a : ByteArray × VT × Value × Value) : List (ByteArray × VT × Value × Value) × Bool :=
  ((acc.1 ++ (if (!acc.2 && !(ltB a.1.data.toList key.data.toList)) = true then [(key, x, p, q)] else [])) ++ (if a.1.data.toList = key.data.toList then [] else [a]), acc.2 || !(ltB a.1.data.toList key.data.toList))
def withJ (key : ByteArray) (x : VT) (p q : Value) (A : List (ByteArray × VT × Value × Value)) (j : Nat) : List (ByteArray × VT × Value × Value) × Bool := (A.take j).foldl (withE key x p q) ([], false)
def withL (key : ByteArray) (x : VT) (p q : Value) (A : List (ByteArray × VT × Value × Value)) : List (ByteArray × VT × Value × Value) :=
  if (withJ key x p q A A.length).2 then (withJ key x p q A A.length).1 else (withJ key x p q A A.length).1 ++ [(key, x, p, q)]
theorem withJ_succ {key : ByteArray} {x : VT} {p q : Value} {A : List (ByteArray × VT × Value × Value)} {j : Nat} {a : ByteArray × VT × Value × Value} (h : A[j]? = some a) : withJ key x p q A (j + 1) = withE key x p q (withJ key x p q A j) a := by
  unfold withJ
  rw [List.take_add_one, h, List.foldl_append]; rfl
theorem HS.ms {w : World} {S : Nat → Prop} {T : VT} {x y : Value} (h : HS w S T x y) : MS w S T.ks T.vs y := by
  cases h with
  | mk a b f g p q hk hn hs hL hM hK iL iM cL cK cM rL rM => exact ⟨b, p, q, hM, hK, iM, cK, cM, rM⟩
theorem HV.hs {w : World} {T : VT} {x y : Value} (h : HV w T x y) : HS w (fun _ => True) T x y := by
  induction h with
  | mk a b f g p q hk hn hs hL hM hK cL cK cM _ _ ihL ihM => exact .mk a b f g p q hk hn hs hL hM hK (fun _ => trivial) (fun _ => trivial) cL cK cM ihL ihM
theorem ents_s {w : World} {S : Nat → Prop} {K : List ByteArray} {V : List VT} {y : Value} (h : MS w S K V y) : ∃ (A : List (ByteArray × VT × Value × Value)) (b : Addr) (o : Option Addr) (cap : Nat), y = .slice o A.length cap ∧ A.length ≤ cap ∧ cap ≤ maxLen ∧ (0 < A.length → o = some b) ∧ A.map (·.1) = K ∧ A.map (·.2.1) = V ∧
    ∀ (i : Nat) (a : ByteArray × VT × Value × Value), A[i]? = some a → (w.cell? (b.add (i * 6)) = some (.string a.1) ∧ a.1.size ≤ maxLen) ∧ Node w (nx (b.add (i * 6))) a.2.1 a.2.2.1 a.2.2.2 ∧ HS w S a.2.1 a.2.2.1 a.2.2.2 := by
  obtain ⟨b, p, q, ⟨o, cap, rfl, h1, h2, h3⟩, hK, -, cK, cM, rM⟩ := h
  have hget : ∀ i, i < V.length → ∃ c t, K[i]? = some c ∧ V[i]? = some t := fun i hi => ⟨K[i], V[i], List.getElem?_eq_getElem (by omega), List.getElem?_eq_getElem hi⟩
  refine ⟨(List.range V.length).map fun i => (K.getD i ⟨#[]⟩, V.getD i zeroT, p i, q i), b, o, cap, by simp, by simpa using h1, h2, by simpa using h3, ?_, ?_, ?_⟩
  · apply List.ext_getElem?
    intro i
    rw [List.map_map, List.getElem?_map]
    by_cases hi : i < V.length
    · obtain ⟨c, t, hc, ht⟩ := hget i hi
      rw [List.getElem?_range hi, hc]
      show some (K.getD i ⟨#[]⟩) = some c
      rw [getD_some hc]
    · rw [List.getElem?_eq_none (by simp; omega), List.getElem?_eq_none (by omega)]; rfl
  · apply List.ext_getElem?
    intro i
    rw [List.map_map, List.getElem?_map]
    by_cases hi : i < V.length
    · obtain ⟨c, t, hc, ht⟩ := hget i hi
      rw [List.getElem?_range hi, ht]
      show some (V.getD i zeroT) = some t
      rw [List.getD, ht]; rfl
    · rw [List.getElem?_eq_none (by simp; omega), List.getElem?_eq_none (by omega)]; rfl
  · intro i a ha
    rw [List.getElem?_map] at ha
    obtain ⟨j, hj, rfl⟩ := Option.map_eq_some_iff.1 ha
    have hi : i < V.length := by have := lt_of_some hj; simpa using this
    rw [List.getElem?_range hi] at hj
    cases hj
    obtain ⟨c, t, hc, ht⟩ := hget i hi
    simp only [getD_some hc, show V.getD i zeroT = t by rw [List.getD, ht]; rfl]
    exact ⟨cK i c hc, cM i t ht, rM i t ht⟩
/-- what lies in the row so far -/
def WRow (w wr : World) (v : Value) (E : List (ByteArray × VT × Value × Value)) : Prop := wr.ownsRow (w.heap.size + 4) 54 6 v E.length (E.flatMap pc) ∧ ∀ e ∈ E, e.1.size ≤ maxLen ∧ HV w e.2.1 e.2.2.1 e.2.2.2
/-- what lies in the row so far, its parts in some blocks -/
def WRowS (S : Nat → Prop) (w wr : World) (v : Value) (E : List (ByteArray × VT × Value × Value)) : Prop := wr.ownsRow (w.heap.size + 4) 54 6 v E.length (E.flatMap pc) ∧ ∀ e ∈ E, e.1.size ≤ maxLen ∧ HS w S e.2.1 e.2.2.1 e.2.2.2
/-- the four boxes of With -/
def WSt (w wr : World) (kv nv : Int) (sv : ByteArray) (xv yv : Value) (kx nx' : Int) (sx : ByteArray) (xx yx : Value) (cm : Value) : Prop :=
  Bx5 wr w.heap.size (.int .i64 kv) (.int .i64 nv) (.string sv) xv yv ∧ Bx5 wr (w.heap.size + 1) (.int .i64 kx) (.int .i64 nx') (.string sx) xx yx ∧ Row wr (w.heap.size + 2) 27 5 ∧ Row wr (w.heap.size + 3) 27 5 ∧
  Bx5 wr (w.heap.size + 3) (.int .i64 6) (.int .i64 0) (.string ⟨#[]⟩) (.slice none 0 0) cm ∧ Below w.heap.size w wr ∧ w.heap.size + 4 ≤ wr.heap.size
theorem WSt.step {w wr w2 : World} {kv nv : Int} {sv : ByteArray} {xv yv : Value} {kx nx' : Int} {sx : ByteArray} {xx yx cm : Value} (h : WSt w wr kv nv sv xv yv kx nx' sx xx yx cm) (hb : Below (w.heap.size + 4) wr w2) (u : Value) :
    WSt w (w2.setCell ⟨w.heap.size + 3, 4, none⟩ u) kv nv sv xv yv kx nx' sx xx yx u := by
  obtain ⟨h1, h2, h3, h4, ⟨g0, g1, g2, g3, g4⟩, h5, h6⟩ := h
  have hs := hb.size
  have k0 : Bx5 w2 (w.heap.size + 3) (.int .i64 6) (.int .i64 0) (.string ⟨#[]⟩) (.slice none 0 0) cm := Bx5.same ⟨g0, g1, g2, g3, g4⟩ (hb.block _ (by omega))
  obtain ⟨f0, f1, f2, f3, f4⟩ := k0
  have hr := h4.onto (hb.block _ (show w.heap.size + 3 < w.heap.size + 4 by omega))
  refine ⟨(h1.same (hb.block _ (by omega))).same (Below.heap_setCell _ _ _ _ (by simp)), (h2.same (hb.block _ (by omega))).same (Below.heap_setCell _ _ _ _ (by simp)), (h3.onto (hb.block _ (by omega))).set _ _, hr.set _ _, ⟨?_, ?_, ?_, ?_, ?_⟩, vset_bel (h5.trans (hb.mono (by omega))) (by simp), by simp; omega⟩
  · rw [set_other _ _ _ _ _ _ (Or.inr (by omega))]; exact f0
  · rw [set_other _ _ _ _ _ _ (Or.inr (by omega))]; exact f1
  · rw [set_other _ _ _ _ _ _ (Or.inr (by omega))]; exact f2
  · rw [set_other _ _ _ _ _ _ (Or.inr (by omega))]; exact f3
  · exact set_same hr (by omega) _
theorem WRow.set {w wr : World} {v : Value} {E : List (ByteArray × VT × Value × Value)} (h : WRow w wr v E) (o : Nat) (u : Value) : WRow w (wr.setCell ⟨w.heap.size + 3, o, none⟩ u) v E := by
  refine ⟨h.1.kept (set_grown wr _ o u) ?_, h.2⟩
  cases hv : v.ownBlock with
  | none => exact Or.inl rfl
  | some g => have := h.1.lt g hv; exact Or.inr (fun e => by injection e with e; omega)
theorem WRow.setb {w wr : World} {v : Value} {E : List (ByteArray × VT × Value × Value)} (h : WRow w wr v E) (b o : Nat) (u : Value) (hb : b < w.heap.size + 4) : WRow w (wr.setCell ⟨b, o, none⟩ u) v E := by
  refine ⟨h.1.kept (set_grown wr b o u) ?_, h.2⟩
  cases hv : v.ownBlock with
  | none => exact Or.inl rfl
  | some g => have := h.1.lt g hv; exact Or.inr (fun e => by injection e with e; omega)
theorem WRow.more {w wr w2 : World} {v v' : Value} {E : List (ByteArray × VT × Value × Value)} {a : ByteArray × VT × Value × Value} (h : WRow w wr v E) (ha : a.1.size ≤ maxLen ∧ HV w a.2.1 a.2.2.1 a.2.2.2) (hown : w2.ownsRow (w.heap.size + 4) 54 6 v' (E.length + 1) (E.flatMap pc ++ pc a)) : WRow w w2 v' (E ++ [a]) := by
  refine ⟨by rw [List.flatMap_append]; simpa using hown, fun e he => ?_⟩
  rcases List.mem_append.1 he with h' | h'
  · exact h.2 e h'
  · obtain rfl := List.mem_singleton.1 h'; exact ha
theorem WRowS.set {S : Nat → Prop} {w wr : World} {v : Value} {E : List (ByteArray × VT × Value × Value)} (h : WRowS S w wr v E) (o : Nat) (u : Value) : WRowS S w (wr.setCell ⟨w.heap.size + 3, o, none⟩ u) v E := by
  refine ⟨h.1.kept (set_grown wr _ o u) ?_, h.2⟩
  cases hv : v.ownBlock with
  | none => exact Or.inl rfl
  | some g => have := h.1.lt g hv; exact Or.inr (fun e => by injection e with e; omega)
theorem WRowS.setb {S : Nat → Prop} {w wr : World} {v : Value} {E : List (ByteArray × VT × Value × Value)} (h : WRowS S w wr v E) (b o : Nat) (u : Value) (hb : b < w.heap.size + 4) : WRowS S w (wr.setCell ⟨b, o, none⟩ u) v E := by
  refine ⟨h.1.kept (set_grown wr b o u) ?_, h.2⟩
  cases hv : v.ownBlock with
  | none => exact Or.inl rfl
  | some g => have := h.1.lt g hv; exact Or.inr (fun e => by injection e with e; omega)
theorem with_hs {S : Nat → Prop} {w wr : World} {v : Value} {E : List (ByteArray × VT × Value × Value)} (h : WRowS S w wr v E) (hb : Below w.heap.size w wr) (hS : ∀ k, S k → k < w.heap.size) : HS wr (fun k => S k ∨ (w.heap.size ≤ k ∧ k < wr.heap.size)) (.mk 6 0 ⟨#[]⟩ [] (E.map (·.1)) (E.map (·.2.1))) (.slice none 0 0) v := by
  have hL : LS wr (fun k => S k ∨ (w.heap.size ≤ k ∧ k < wr.heap.size)) [] (.slice none 0 0) := ⟨⟨0, 0, none⟩, fun _ => .nilIface, fun _ => .nilIface, ⟨none, 0, rfl, Nat.le_refl _, Nat.zero_le _, fun h => absurd h (by simp)⟩, fun h => absurd h (by simp), fun i t h => by simp at h, fun i t h => by simp at h⟩
  refine hs_of (T := .mk 6 0 ⟨#[]⟩ [] (E.map (·.1)) (E.map (·.2.1))) ⟨list_wf.2.1, list_wf.2.2, (by decide : (⟨#[]⟩ : ByteArray).size ≤ maxLen)⟩ hL (own_ms h.1 (fun a ha => ⟨(h.2 a ha).1, (h.2 a ha).2.onto (fun k hk => hb.block k (hS k hk)) (fun k hk => Or.inl hk)⟩) (fun g hg => ?_))
  have := h.1.lt g hg
  exact Or.inr (by omega)
theorem WRowS.more {S : Nat → Prop} {w wr w2 : World} {v v' : Value} {E : List (ByteArray × VT × Value × Value)} {a : ByteArray × VT × Value × Value} (h : WRowS S w wr v E) (ha : a.1.size ≤ maxLen ∧ HS w S a.2.1 a.2.2.1 a.2.2.2) (hown : w2.ownsRow (w.heap.size + 4) 54 6 v' (E.length + 1) (E.flatMap pc ++ pc a)) : WRowS S w w2 v' (E ++ [a]) := by
  refine ⟨by rw [List.flatMap_append]; simpa using hown, fun e he => ?_⟩
  rcases List.mem_append.1 he with h' | h'
  · exact h.2 e h'
  · obtain rfl := List.mem_singleton.1 h'; exact ha
theorem with_len (key : ByteArray) (x : VT) (p q : Value) (A : List (ByteArray × VT × Value × Value)) : ∀ j, (withJ key x p q A j).1.length ≤ 2 * j
  | 0 => by simp [withJ]
  | j + 1 => by
    have := with_len key x p q A j
    cases h : A[j]? with
    | none =>
      have : withJ key x p q A (j + 1) = withJ key x p q A j := by unfold withJ; rw [List.take_add_one, h]; simp
      rw [this]; omega
    | some a =>
      rw [withJ_succ h]
      unfold withE
      simp only [List.length_append]
      split <;> split <;> simp <;> omega
theorem wst_start (w : World) (kv nv : Int) (sv : ByteArray) (xv yv : Value) (kx nx' : Int) (sx : ByteArray) (xx yx : Value) (z : Array Value) (hz : z.size = 5) :
    WSt w ((((w.alloc (.cells #[.int .i64 kv, .int .i64 nv, .string sv, xv, yv] 27)).alloc (.cells #[.int .i64 kx, .int .i64 nx', .string sx, xx, yx] 27)).alloc (.cells z 27)).alloc (.cells #[.int .i64 6, .int .i64 0, .string ⟨#[]⟩, .slice none 0 0, .slice none 0 0] 27)) kv nv sv xv yv kx nx' sx xx yx (.slice none 0 0) := by
  obtain ⟨W1, hW1⟩ : ∃ W, W = w.alloc (.cells #[.int .i64 kv, .int .i64 nv, .string sv, xv, yv] 27) := ⟨_, rfl⟩
  have s1 : W1.heap.size = w.heap.size + 1 := by rw [hW1, World.size_alloc]
  have h0 : Bx5 W1 w.heap.size (.int .i64 kv) (.int .i64 nv) (.string sv) xv yv := by rw [hW1]; exact ⟨by simp, by simp, by simp, by simp, by simp⟩
  have b1 : Below w.heap.size w W1 := by rw [hW1]; exact valloc_bel (Below.refl _ _) _
  rw [← hW1]
  clear hW1
  obtain ⟨W2, hW2⟩ : ∃ W, W = W1.alloc (.cells #[.int .i64 kx, .int .i64 nx', .string sx, xx, yx] 27) := ⟨_, rfl⟩
  have s2 : W2.heap.size = w.heap.size + 2 := by rw [hW2, World.size_alloc]; omega
  have h1 : Bx5 W2 (w.heap.size + 1) (.int .i64 kx) (.int .i64 nx') (.string sx) xx yx := by rw [hW2, ← s1]; exact ⟨by simp, by simp, by simp, by simp, by simp⟩
  have b2 : Below W1.heap.size W1 W2 := by rw [hW2]; exact valloc_bel (Below.refl _ _) _
  rw [← hW2]
  clear hW2
  obtain ⟨W3, hW3⟩ : ∃ W, W = W2.alloc (.cells z 27) := ⟨_, rfl⟩
  have s3 : W3.heap.size = w.heap.size + 3 := by rw [hW3, World.size_alloc]; omega
  have h2 : Row W3 (w.heap.size + 2) 27 5 := by rw [hW3, ← s2, ← hz]; exact Row.new _ _ _
  have b3 : Below W2.heap.size W2 W3 := by rw [hW3]; exact valloc_bel (Below.refl _ _) _
  rw [← hW3]
  clear hW3
  obtain ⟨W4, hW4⟩ : ∃ W, W = W3.alloc (.cells #[.int .i64 6, .int .i64 0, .string ⟨#[]⟩, .slice none 0 0, .slice none 0 0] 27) := ⟨_, rfl⟩
  have s4 : W4.heap.size = w.heap.size + 4 := by rw [hW4, World.size_alloc]; omega
  have h3 : Row W4 (w.heap.size + 3) 27 5 := by rw [hW4, ← s3]; exact Row.new _ _ _
  have h4 : Bx5 W4 (w.heap.size + 3) (.int .i64 6) (.int .i64 0) (.string ⟨#[]⟩) (.slice none 0 0) (.slice none 0 0) := by rw [hW4, ← s3]; exact ⟨by simp, by simp, by simp, by simp, by simp⟩
  have b4 : Below W3.heap.size W3 W4 := by rw [hW4]; exact valloc_bel (Below.refl _ _) _
  rw [← hW4]
  clear hW4
  exact ⟨((h0.same (b2.block _ (by omega))).same (b3.block _ (by omega))).same (b4.block _ (by omega)), (h1.same (b3.block _ (by omega))).same (b4.block _ (by omega)), h2.onto (b4.block _ (by omega)), h3, h4, vonto (vonto (vonto b1 b2) b3) b4, by omega⟩
/-- what With answers -/
def WithPostS (S : Nat → Prop) (T : VT) (key : ByteArray) (U : VT) (x' y' : Value) (w : World) (e : Ending) (w' : World) : Prop := ∃ (A E : List (ByteArray × VT × Value × Value)) (o : Option Addr) (m c : Nat), A.map (·.1) = T.ks ∧ A.map (·.2.1) = T.vs ∧ Hid (E = withL key U x' y' A) ∧ e = .returned (.agg #[.int .i64 6, .int .i64 0, .string ⟨#[]⟩, .slice none 0 0, .slice o m c]) ∧ WRowS S w w' (.slice o m c) E ∧ Below w.heap.size w w'
set_option maxRecDepth 100000 in
set_option maxHeartbeats 8000000 in
theorem withS_any (S : Nat → Prop) (T : VT) (x y : Value) (key : ByteArray) (U : VT) (x' y' : Value) (w : World) (hT : HS w S T x y) (hU : HS w S U x' y') (hk : key.size ≤ maxLen) (hl : T.vs.length ≤ 100000) :
    Calls Tryz.prog 120 #[vv T x y, .string key, vv U x' y'] w fun e w' => WithPostS S T key U x' y' w e w' := by
  obtain ⟨A, b, oM, cap, hy, hcap, hmx, ho, hAK, hAV, hA⟩ := ents_s hT.ms
  obtain ⟨o1, n1, c1, o2, n2, c2, rfl, e2⟩ := hv_slices hT.hv
  subst hy
  clear e2
  obtain ⟨o3, n3, c3, o4, n4, c4, rfl, rfl⟩ := hv_slices hU.hv
  unfold maxLen at hmx
  have hlen : A.length ≤ 100000 := by rw [← List.length_map (f := (·.2.1)), hAV]; exact hl
  have HAK := hid hAK
  have HAV := hid hAV
  have HA := hid hA
  have HU := hid hU
  have HKS := hid hk
  have HT := hid hT
  obtain ⟨i1, hi', hz0', hz1', hz2'⟩ := info_parts Tryz.info34
  clear hAK hAV hA hU hk hl hT
  simp only [vv]
  go_enter Tryz.func120, Tryz.ntmps120
  go_wp2_with fail
  go_loopw [8, 9] (fun d i wr => ∃ (j : Nat) (o : Option Addr) (m c : Nat), i = .int .i64 j ∧ j ≤ A.length ∧ d = .bool (withJ key U (.slice o3 n3 c3) (.slice o4 n4 c4) A j).2 ∧ Hid (WRowS S w wr (.slice o m c) (withJ key U (.slice o3 n3 c3) (.slice o4 n4 c4) A j).1) ∧ Hid (WSt w wr T.kd T.nm T.st (.slice o1 n1 c1) (.slice oM A.length cap) U.kd U.nm U.st (.slice o3 n3 c3) (.slice o4 n4 c4) (.slice o m c))) (fun _ i _ => A.length - (intOf i).toNat)
  case atStart => exact ⟨0, none, 0, 0, rfl, Nat.zero_le _, rfl, ⟨World.ownsRow_nil _ _ _ _, fun e he => by simp [withJ] at he⟩, wst_start w _ _ _ _ _ _ _ _ _ _ _ rfl⟩
  case round =>
    obtain ⟨j, o, m, c, rfl, hj, rfl, HRW, HST⟩ := hrel
    have hwl := with_len key U (.slice o3 n3 c3) (.slice o4 n4 c4) A j
    obtain ⟨b0, b1, b2, b3, b4⟩ := HST.out.1
    obtain ⟨x0, x1, x2, x3, x4⟩ := HST.out.2.1
    have g4 : wr.cell? ⟨w.heap.size + 1 + 1 + 1, 4, none⟩ = some (.slice o m c) := HST.out.2.2.2.2.1.2.2.2.2
    have zf : wr.frozen? ⟨w.heap.size + 1 + 1 + 1, 4, none⟩ = false := HST.out.2.2.2.1.frozen 4
    have hbw := HST.out.2.2.2.2.2.1
    have hs4w := HST.out.2.2.2.2.2.2
    by_cases hlt : j < A.length
    · obtain ⟨a, ha⟩ : ∃ a, A[j]? = some a := ⟨A[j], List.getElem?_eq_getElem hlt⟩
      obtain rfl := ho (by omega)
      have HWS := hid (withJ_succ (key := key) (x := U) (p := .slice o3 n3 c3) (q := .slice o4 n4 c4) ha)
      obtain ⟨⟨ck, cks⟩, cn, cv⟩ := HA.out j a ha
      obtain ⟨p1, p2, p3, p4, p5, p6, hp, hq⟩ := hv_slices cv.hv
      obtain ⟨ak, at', ap, aq⟩ := a
      simp only at hp hq ck cks cn cv
      subst hp hq
      have HCV := hid cv
      have HCN := hid cn
      have HCK := hid ck
      have kk := keepCell hbw ck
      have hab : b.block < w.heap.size := by have := World.block_lt_of_cell? w _ ck; rwa [addr_block] at this
      clear cv cn ck ha
      obtain ⟨WJ, hWJ⟩ : ∃ q, q = withJ key U (.slice o3 n3 c3) (.slice o4 n4 c4) A j := ⟨_, rfl⟩
      rw [← hWJ] at HRW HWS hwl ⊢
      clear hWJ
      obtain ⟨E, dn⟩ := WJ
      unfold withE at HWS
      simp only at HRW HWS hwl ⊢
      have hEl : E.length ≤ 200000 := by omega
      by_cases he : ak.data.toList = key.data.toList
      · have te := txt_is ak key he
        have hl : ltB ak.data.toList key.data.toList = false := by rw [he]; exact ltB_irr _
        have tl : Op.bytesLess ak.toList key.toList = false := by rw [Lib.toList_data, Lib.toList_data]; exact hl
        rw [hl, if_pos he] at HWS
        clear hl he
        cases dn with
        | true =>
          go_wp2_with fail
          go_roundw
          case rel => exact ⟨j + 1, o, m, c, val_int (by omega), hlt, by rw [HWS.out]; rfl, hid (by rw [HWS.out]; simpa using HRW.out), HST⟩
          case measure => simp [intOf]; omega
        | false =>
          go_wp2_with (at_builtin; go_must (refine wpList_append_lies _ rfl _ _ _ rfl (w.heap.size + 4) 54 i1 (.agg #[.string ⟨#[]⟩, .int .i64 0, .int .i64 0, .string ⟨#[]⟩, .slice none 0 0, .slice none 0 0]) 6 96 Tryz.underlying25 hi' hz0' hz1' hz2' rfl (by decide) _ _ _ rfl (HRW.out.1.alloc _) ⟨wr.heap.size, 0, none⟩ 1 1 (pc (key, U, .slice o3 n3 c3, .slice o4 n4 c4)) rfl rfl (new_cells wr _ 54) (pc_one' _ _ _ _ _ _ _ _) (by decide) (by unfold maxLen; omega) (by omega) (by simp; omega) (wr.heap.size + 1) (by simp) ?_; intro g9 cap9 w9 hown9 hgr9 hat9 hlt9; have kc9 : Below (w.heap.size + 4) wr w9 := ((Below.refl (w.heap.size + 4) wr).alloc hs4w _).grown hgr9 (by simp; omega) (fun q hq => by have := HRW.out.1.lt q hq; omega); have y9 : w9.cell? ⟨w.heap.size + 1 + 1 + 1, 4, none⟩ = some (.slice o m c) := (kc9.cell (show w.heap.size + 1 + 1 + 1 < w.heap.size + 4 by omega)).trans g4; have z9 : w9.frozen? ⟨w.heap.size + 1 + 1 + 1, 4, none⟩ = false := (kc9.frozen (show w.heap.size + 1 + 1 + 1 < w.heap.size + 4 by omega)).trans zf; have b4' : w9.cell? ⟨w.heap.size, 4, none⟩ = some (.slice (some b) A.length cap) := (kc9.cell (show w.heap.size < w.heap.size + 4 by omega)).trans b4; have kk' : w9.cell? (b.add (j * 6)) = some (.string ak) := (kc9.cell (by rw [addr_block]; omega)).trans kk; have kk2 : (w9.setCell ⟨w.heap.size + 1 + 1 + 1, 4, none⟩ (.slice (some ⟨g9, 0, none⟩) (E.length + 1) cap9)).cell? (b.add (j * 6)) = some (.string ak) := (World.cell?_setCell_other _ _ _ _ (fun e => by have := congrArg Addr.block e; rw [addr_block] at this; simp at this; omega)).trans kk'; have b42 : (w9.setCell ⟨w.heap.size + 1 + 1 + 1, 4, none⟩ (.slice (some ⟨g9, 0, none⟩) (E.length + 1) cap9)).cell? ⟨w.heap.size, 4, none⟩ = some (.slice (some b) A.length cap) := (set_other _ _ _ _ _ _ (Or.inl (by omega))).trans b4'; go_wp2_with fail))
          go_roundw
          case rel => exact ⟨j + 1, some ⟨g9, 0, none⟩, _, cap9, val_int (by omega), hlt, by rw [HWS.out]; rfl, hid (by rw [HWS.out]; simpa using (WRowS.more (a := (key, U, .slice o3 n3 c3, .slice o4 n4 c4)) HRW.out ⟨HKS.out, HU.out⟩ hown9).set 4 _), HST.out.step kc9 _⟩
          case measure => simp [intOf]; omega
      · have te := txt_no ak key he
        rw [if_neg he] at HWS
        clear he
        cases hl : ltB ak.data.toList key.data.toList with
        | true =>
          have tl : Op.bytesLess ak.toList key.toList = true := by rw [Lib.toList_data, Lib.toList_data]; exact hl
          rw [hl] at HWS
          clear hl
          cases dn with
          | true =>
            go_wp2_with fail
            have hs4 := HST.out.2.2.2.2.2.2
            have hKEEP : ∀ X, Below (w.heap.size + 4) wr X → X.cell? ⟨w.heap.size + 1 + 1 + 1, 4, none⟩ = some (.slice o m c) ∧ X.cell? ⟨w.heap.size, 4, none⟩ = some (.slice (some b) A.length cap) ∧ X.cell? (b.add (j * 6)) = some (.string ak) ∧ X.cell? ⟨(b.add (j * 6)).block, (b.add (j * 6)).off + 1, none⟩ = some (.int .i64 at'.kd) ∧ X.cell? ⟨(b.add (j * 6)).block, (b.add (j * 6)).off + 1 + 1, none⟩ = some (.int .i64 at'.nm) ∧ X.cell? ⟨(b.add (j * 6)).block, (b.add (j * 6)).off + 1 + 2, none⟩ = some (.string at'.st) ∧ X.cell? ⟨(b.add (j * 6)).block, (b.add (j * 6)).off + 1 + 3, none⟩ = some (.slice p1 p2 p3) ∧ X.cell? ⟨(b.add (j * 6)).block, (b.add (j * 6)).off + 1 + 4, none⟩ = some (.slice p4 p5 p6) := by
              intro X hX
              have e : ∀ q : Addr, q.block < w.heap.size + 4 → X.cell? q = wr.cell? q := fun q hq => hX.cell hq
              have hb' : (b.add (j * 6)).block < w.heap.size + 4 := by rw [addr_block]; omega
              have hbq := HST.out.2.2.2.2.2.1
              have hnode := HCN.out.onto hbq
              simp only [Node, nx] at hnode
              obtain ⟨d0, d1, d2, d3, d4⟩ := hnode
              exact ⟨(e _ (by show w.heap.size + 1 + 1 + 1 < _; omega)).trans HST.out.2.2.2.2.1.2.2.2.2, (e _ (by show w.heap.size < _; omega)).trans HST.out.1.2.2.2.2, (e _ hb').trans (keepCell hbq HCK.out), (e ⟨_, _, none⟩ hb').trans d0, (e ⟨_, _, none⟩ hb').trans d1, (e ⟨_, _, none⟩ hb').trans d2, (e ⟨_, _, none⟩ hb').trans d3, (e ⟨_, _, none⟩ hb').trans d4⟩
            have HKEEP := hid hKEEP
            clear hKEEP
            refine wp_region_ends2 (S := fun X => X.cell? ⟨w.heap.size + 1 + 1 + 1, 4, none⟩ = some (.slice o m c) ∧ X.cell? ⟨w.heap.size, 4, none⟩ = some (.slice (some b) A.length cap) ∧ X.cell? (b.add (j * 6)) = some (.string ak) ∧ X.cell? ⟨(b.add (j * 6)).block, (b.add (j * 6)).off + 1, none⟩ = some (.int .i64 at'.kd) ∧ X.cell? ⟨(b.add (j * 6)).block, (b.add (j * 6)).off + 1 + 1, none⟩ = some (.int .i64 at'.nm) ∧ X.cell? ⟨(b.add (j * 6)).block, (b.add (j * 6)).off + 1 + 2, none⟩ = some (.string at'.st) ∧ X.cell? ⟨(b.add (j * 6)).block, (b.add (j * 6)).off + 1 + 3, none⟩ = some (.slice p1 p2 p3) ∧ X.cell? ⟨(b.add (j * 6)).block, (b.add (j * 6)).off + 1 + 4, none⟩ = some (.slice p4 p5 p6)) (by simp) (by kernel_rfl) (by kernel_rfl) (by kernel_rfl) (by kernel_rfl) (by kernel_rfl) (by kernel_rfl) ?_
            simp only [List.dropLast, List.getLast_cons_cons, List.getLast_singleton, List.length_cons, List.length_nil]
            have hS0 := HKEEP.out wr.drew (Below.refl _ _).drew
            refine take_h (i := 0) (v := ?_) rfl (by kernel_rfl) (by kernel_rfl) (by kernel_rfl) (fun _ _ _ h => h) (by rfl) ?_ hS0 ?_
            rotate_left
            · (intro X hX; go_simp; try with_reducible rfl)
            simp only [Act.put, List.setIfInBounds_toArray, List.set_cons_zero, List.set_cons_succ]
            refine take_h (i := 1) (v := ?_) rfl (by kernel_rfl) (by kernel_rfl) (by kernel_rfl) (fun _ _ _ h => h) (by rfl) ?_ hS0 ?_
            rotate_left
            · (intro X hX; go_simp; try with_reducible rfl)
            simp only [Act.put, List.setIfInBounds_toArray, List.set_cons_zero, List.set_cons_succ]
            refine take_h (i := 2) (v := ?_) rfl (by kernel_rfl) (by kernel_rfl) (by kernel_rfl) (fun _ _ _ h => h) (by rfl) ?_ hS0 ?_
            rotate_left
            · (intro X hX; go_simp; try with_reducible rfl)
            simp only [Act.put, List.setIfInBounds_toArray, List.set_cons_zero, List.set_cons_succ]
            refine take_h (i := 3) (v := ?_) rfl (by kernel_rfl) (by kernel_rfl) (by kernel_rfl) (fun _ _ _ h => h) (by rfl) ?_ hS0 ?_
            rotate_left
            · (intro X hX; go_simp; try with_reducible rfl)
            simp only [Act.put, List.setIfInBounds_toArray, List.set_cons_zero, List.set_cons_succ]
            refine take_h (i := 4) (v := ?_) rfl (by kernel_rfl) (by kernel_rfl) (by kernel_rfl) (fun _ _ _ h => h) (by rfl) ?_ hS0 ?_
            rotate_left
            · (intro X hX; go_simp; try with_reducible rfl)
            simp only [Act.put, List.setIfInBounds_toArray, List.set_cons_zero, List.set_cons_succ]
            refine take_h (i := 5) (v := ?_) rfl (by kernel_rfl) (by kernel_rfl) (by kernel_rfl) (fun _ _ _ h => h) (by rfl) ?_ hS0 ?_
            rotate_left
            · (intro X hX; go_simp; try with_reducible rfl)
            simp only [Act.put, List.setIfInBounds_toArray, List.set_cons_zero, List.set_cons_succ]
            refine take_h (i := 6) (v := ?_) rfl (by kernel_rfl) (by kernel_rfl) (by kernel_rfl) (fun _ _ _ h => h) (by rfl) ?_ hS0 ?_
            rotate_left
            · (intro X hX; go_simp; try with_reducible rfl)
            simp only [Act.put, List.setIfInBounds_toArray, List.set_cons_zero, List.set_cons_succ]
            refine step_h (i := 7) rfl (by kernel_rfl) ?_
            intro KK hKK
            go_simp
            refine hKK.out _ _ (HKEEP.out _ ((Below.refl (w.heap.size + 4) wr).drew.alloc hs4 _)) (fun hS2 => ?_)
            clear hKK KK hS0
            refine step_h (i := 8) rfl (by kernel_rfl) ?_
            intro KK hKK
            refine step_append_lies _ (by rfl) _ _ _ (by rfl) (w.heap.size + 4) 54 i1 (.agg #[.string ⟨#[]⟩, .int .i64 0, .int .i64 0, .string ⟨#[]⟩, .slice none 0 0, .slice none 0 0]) 6 96 Tryz.underlying25 hi' hz0' hz1' hz2' rfl (by decide) _ _ _ (by rfl) (HRW.out.1.drew.alloc _) ⟨wr.heap.size, 0, none⟩ 1 1 (pc (ak, at', .slice p1 p2 p3, .slice p4 p5 p6)) (by rfl) rfl (new_cells wr.drew _ 54) (pc_one' _ _ _ _ _ _ _ _) (by decide) (by unfold maxLen; omega) (by omega) (by simp; omega) (wr.heap.size + 1) (by simp) ?_
            intro g9 cap9 w9 hown9 hgr9 hat9 hlt9
            have kc9 : Below (w.heap.size + 4) wr w9 := ((Below.refl (w.heap.size + 4) wr).drew.alloc hs4 _).grown hgr9 (by simp; omega) (fun q hq => by have := HRW.out.1.lt q hq; omega)
            refine hKK.out _ _ (HKEEP.out _ kc9) (fun hS3 => ?_)
            clear hKK KK hS2
            simp only [Act.put, List.setIfInBounds_toArray, List.set_cons_zero, List.set_cons_succ]
            refine take_h (i := 9) (v := ?_) rfl (by kernel_rfl) (by kernel_rfl) (by kernel_rfl) (fun _ _ _ h => h) (by rfl) ?_ hS3 ?_
            rotate_left
            · (intro X hX; go_simp; try with_reducible rfl)
            simp only [Act.put, List.setIfInBounds_toArray, List.set_cons_zero, List.set_cons_succ]
            have y9 : w9.cell? ⟨w.heap.size + 1 + 1 + 1, 4, none⟩ = some (.slice o m c) := (kc9.cell (show w.heap.size + 1 + 1 + 1 < w.heap.size + 4 by omega)).trans HST.out.2.2.2.2.1.2.2.2.2
            have z9 : w9.frozen? ⟨w.heap.size + 1 + 1 + 1, 4, none⟩ = false := (kc9.frozen (show w.heap.size + 1 + 1 + 1 < w.heap.size + 4 by omega)).trans (HST.out.2.2.2.1.frozen 4)
            clear hS3
            refine wpAnyH_done (by kernel_rfl) ?_ _
            change Oper.wp _ _ _ _ _ _
            go_simp
            go_wp2_with fail
            go_roundw
            case rel => exact ⟨j + 1, some ⟨g9, 0, none⟩, _, cap9, val_int (by omega), hlt, by rw [HWS.out]; simp, hid (by rw [HWS.out]; simpa using (WRowS.more HRW.out ⟨cks, HCV.out⟩ hown9).set 4 _), HST.out.step kc9 _⟩
            case measure => simp [intOf]; omega
          | false =>
            go_wp2_with fail
            have hs4 := HST.out.2.2.2.2.2.2
            have hKEEP : ∀ X, Below (w.heap.size + 4) wr X → X.cell? ⟨w.heap.size + 1 + 1 + 1, 4, none⟩ = some (.slice o m c) ∧ X.cell? ⟨w.heap.size, 4, none⟩ = some (.slice (some b) A.length cap) ∧ X.cell? (b.add (j * 6)) = some (.string ak) ∧ X.cell? ⟨(b.add (j * 6)).block, (b.add (j * 6)).off + 1, none⟩ = some (.int .i64 at'.kd) ∧ X.cell? ⟨(b.add (j * 6)).block, (b.add (j * 6)).off + 1 + 1, none⟩ = some (.int .i64 at'.nm) ∧ X.cell? ⟨(b.add (j * 6)).block, (b.add (j * 6)).off + 1 + 2, none⟩ = some (.string at'.st) ∧ X.cell? ⟨(b.add (j * 6)).block, (b.add (j * 6)).off + 1 + 3, none⟩ = some (.slice p1 p2 p3) ∧ X.cell? ⟨(b.add (j * 6)).block, (b.add (j * 6)).off + 1 + 4, none⟩ = some (.slice p4 p5 p6) := by
              intro X hX
              have e : ∀ q : Addr, q.block < w.heap.size + 4 → X.cell? q = wr.cell? q := fun q hq => hX.cell hq
              have hb' : (b.add (j * 6)).block < w.heap.size + 4 := by rw [addr_block]; omega
              have hbq := HST.out.2.2.2.2.2.1
              have hnode := HCN.out.onto hbq
              simp only [Node, nx] at hnode
              obtain ⟨d0, d1, d2, d3, d4⟩ := hnode
              exact ⟨(e _ (by show w.heap.size + 1 + 1 + 1 < _; omega)).trans HST.out.2.2.2.2.1.2.2.2.2, (e _ (by show w.heap.size < _; omega)).trans HST.out.1.2.2.2.2, (e _ hb').trans (keepCell hbq HCK.out), (e ⟨_, _, none⟩ hb').trans d0, (e ⟨_, _, none⟩ hb').trans d1, (e ⟨_, _, none⟩ hb').trans d2, (e ⟨_, _, none⟩ hb').trans d3, (e ⟨_, _, none⟩ hb').trans d4⟩
            have HKEEP := hid hKEEP
            clear hKEEP
            refine wp_region_ends2 (S := fun X => X.cell? ⟨w.heap.size + 1 + 1 + 1, 4, none⟩ = some (.slice o m c) ∧ X.cell? ⟨w.heap.size, 4, none⟩ = some (.slice (some b) A.length cap) ∧ X.cell? (b.add (j * 6)) = some (.string ak) ∧ X.cell? ⟨(b.add (j * 6)).block, (b.add (j * 6)).off + 1, none⟩ = some (.int .i64 at'.kd) ∧ X.cell? ⟨(b.add (j * 6)).block, (b.add (j * 6)).off + 1 + 1, none⟩ = some (.int .i64 at'.nm) ∧ X.cell? ⟨(b.add (j * 6)).block, (b.add (j * 6)).off + 1 + 2, none⟩ = some (.string at'.st) ∧ X.cell? ⟨(b.add (j * 6)).block, (b.add (j * 6)).off + 1 + 3, none⟩ = some (.slice p1 p2 p3) ∧ X.cell? ⟨(b.add (j * 6)).block, (b.add (j * 6)).off + 1 + 4, none⟩ = some (.slice p4 p5 p6)) (by simp) (by kernel_rfl) (by kernel_rfl) (by kernel_rfl) (by kernel_rfl) (by kernel_rfl) (by kernel_rfl) ?_
            simp only [List.dropLast, List.getLast_cons_cons, List.getLast_singleton, List.length_cons, List.length_nil]
            have hS0 := HKEEP.out wr.drew (Below.refl _ _).drew
            refine take_h (i := 0) (v := ?_) rfl (by kernel_rfl) (by kernel_rfl) (by kernel_rfl) (fun _ _ _ h => h) (by rfl) ?_ hS0 ?_
            rotate_left
            · (intro X hX; go_simp; try with_reducible rfl)
            simp only [Act.put, List.setIfInBounds_toArray, List.set_cons_zero, List.set_cons_succ]
            refine take_h (i := 1) (v := ?_) rfl (by kernel_rfl) (by kernel_rfl) (by kernel_rfl) (fun _ _ _ h => h) (by rfl) ?_ hS0 ?_
            rotate_left
            · (intro X hX; go_simp; try with_reducible rfl)
            simp only [Act.put, List.setIfInBounds_toArray, List.set_cons_zero, List.set_cons_succ]
            refine take_h (i := 2) (v := ?_) rfl (by kernel_rfl) (by kernel_rfl) (by kernel_rfl) (fun _ _ _ h => h) (by rfl) ?_ hS0 ?_
            rotate_left
            · (intro X hX; go_simp; try with_reducible rfl)
            simp only [Act.put, List.setIfInBounds_toArray, List.set_cons_zero, List.set_cons_succ]
            refine take_h (i := 3) (v := ?_) rfl (by kernel_rfl) (by kernel_rfl) (by kernel_rfl) (fun _ _ _ h => h) (by rfl) ?_ hS0 ?_
            rotate_left
            · (intro X hX; go_simp; try with_reducible rfl)
            simp only [Act.put, List.setIfInBounds_toArray, List.set_cons_zero, List.set_cons_succ]
            refine take_h (i := 4) (v := ?_) rfl (by kernel_rfl) (by kernel_rfl) (by kernel_rfl) (fun _ _ _ h => h) (by rfl) ?_ hS0 ?_
            rotate_left
            · (intro X hX; go_simp; try with_reducible rfl)
            simp only [Act.put, List.setIfInBounds_toArray, List.set_cons_zero, List.set_cons_succ]
            refine take_h (i := 5) (v := ?_) rfl (by kernel_rfl) (by kernel_rfl) (by kernel_rfl) (fun _ _ _ h => h) (by rfl) ?_ hS0 ?_
            rotate_left
            · (intro X hX; go_simp; try with_reducible rfl)
            simp only [Act.put, List.setIfInBounds_toArray, List.set_cons_zero, List.set_cons_succ]
            refine take_h (i := 6) (v := ?_) rfl (by kernel_rfl) (by kernel_rfl) (by kernel_rfl) (fun _ _ _ h => h) (by rfl) ?_ hS0 ?_
            rotate_left
            · (intro X hX; go_simp; try with_reducible rfl)
            simp only [Act.put, List.setIfInBounds_toArray, List.set_cons_zero, List.set_cons_succ]
            refine step_h (i := 7) rfl (by kernel_rfl) ?_
            intro KK hKK
            go_simp
            refine hKK.out _ _ (HKEEP.out _ ((Below.refl (w.heap.size + 4) wr).drew.alloc hs4 _)) (fun hS2 => ?_)
            clear hKK KK hS0
            refine step_h (i := 8) rfl (by kernel_rfl) ?_
            intro KK hKK
            refine step_append_lies _ (by rfl) _ _ _ (by rfl) (w.heap.size + 4) 54 i1 (.agg #[.string ⟨#[]⟩, .int .i64 0, .int .i64 0, .string ⟨#[]⟩, .slice none 0 0, .slice none 0 0]) 6 96 Tryz.underlying25 hi' hz0' hz1' hz2' rfl (by decide) _ _ _ (by rfl) (HRW.out.1.drew.alloc _) ⟨wr.heap.size, 0, none⟩ 1 1 (pc (ak, at', .slice p1 p2 p3, .slice p4 p5 p6)) (by rfl) rfl (new_cells wr.drew _ 54) (pc_one' _ _ _ _ _ _ _ _) (by decide) (by unfold maxLen; omega) (by omega) (by simp; omega) (wr.heap.size + 1) (by simp) ?_
            intro g9 cap9 w9 hown9 hgr9 hat9 hlt9
            have kc9 : Below (w.heap.size + 4) wr w9 := ((Below.refl (w.heap.size + 4) wr).drew.alloc hs4 _).grown hgr9 (by simp; omega) (fun q hq => by have := HRW.out.1.lt q hq; omega)
            refine hKK.out _ _ (HKEEP.out _ kc9) (fun hS3 => ?_)
            clear hKK KK hS2
            simp only [Act.put, List.setIfInBounds_toArray, List.set_cons_zero, List.set_cons_succ]
            refine take_h (i := 9) (v := ?_) rfl (by kernel_rfl) (by kernel_rfl) (by kernel_rfl) (fun _ _ _ h => h) (by rfl) ?_ hS3 ?_
            rotate_left
            · (intro X hX; go_simp; try with_reducible rfl)
            simp only [Act.put, List.setIfInBounds_toArray, List.set_cons_zero, List.set_cons_succ]
            have y9 : w9.cell? ⟨w.heap.size + 1 + 1 + 1, 4, none⟩ = some (.slice o m c) := (kc9.cell (show w.heap.size + 1 + 1 + 1 < w.heap.size + 4 by omega)).trans HST.out.2.2.2.2.1.2.2.2.2
            have z9 : w9.frozen? ⟨w.heap.size + 1 + 1 + 1, 4, none⟩ = false := (kc9.frozen (show w.heap.size + 1 + 1 + 1 < w.heap.size + 4 by omega)).trans (HST.out.2.2.2.1.frozen 4)
            clear hS3
            refine wpAnyH_done (by kernel_rfl) ?_ _
            change Oper.wp _ _ _ _ _ _
            go_simp
            go_wp2_with fail
            go_roundw
            case rel => exact ⟨j + 1, some ⟨g9, 0, none⟩, _, cap9, val_int (by omega), hlt, by rw [HWS.out]; simp, hid (by rw [HWS.out]; simpa using (WRowS.more HRW.out ⟨cks, HCV.out⟩ hown9).set 4 _), HST.out.step kc9 _⟩
            case measure => simp [intOf]; omega
        | false =>
          have tl : Op.bytesLess ak.toList key.toList = false := by rw [Lib.toList_data, Lib.toList_data]; exact hl
          rw [hl] at HWS
          clear hl
          cases dn with
          | true =>
            go_wp2_with fail
            have hs4 := HST.out.2.2.2.2.2.2
            have hKEEP : ∀ X, Below (w.heap.size + 4) wr X → X.cell? ⟨w.heap.size + 1 + 1 + 1, 4, none⟩ = some (.slice o m c) ∧ X.cell? ⟨w.heap.size, 4, none⟩ = some (.slice (some b) A.length cap) ∧ X.cell? (b.add (j * 6)) = some (.string ak) ∧ X.cell? ⟨(b.add (j * 6)).block, (b.add (j * 6)).off + 1, none⟩ = some (.int .i64 at'.kd) ∧ X.cell? ⟨(b.add (j * 6)).block, (b.add (j * 6)).off + 1 + 1, none⟩ = some (.int .i64 at'.nm) ∧ X.cell? ⟨(b.add (j * 6)).block, (b.add (j * 6)).off + 1 + 2, none⟩ = some (.string at'.st) ∧ X.cell? ⟨(b.add (j * 6)).block, (b.add (j * 6)).off + 1 + 3, none⟩ = some (.slice p1 p2 p3) ∧ X.cell? ⟨(b.add (j * 6)).block, (b.add (j * 6)).off + 1 + 4, none⟩ = some (.slice p4 p5 p6) := by
              intro X hX
              have e : ∀ q : Addr, q.block < w.heap.size + 4 → X.cell? q = wr.cell? q := fun q hq => hX.cell hq
              have hb' : (b.add (j * 6)).block < w.heap.size + 4 := by rw [addr_block]; omega
              have hbq := HST.out.2.2.2.2.2.1
              have hnode := HCN.out.onto hbq
              simp only [Node, nx] at hnode
              obtain ⟨d0, d1, d2, d3, d4⟩ := hnode
              exact ⟨(e _ (by show w.heap.size + 1 + 1 + 1 < _; omega)).trans HST.out.2.2.2.2.1.2.2.2.2, (e _ (by show w.heap.size < _; omega)).trans HST.out.1.2.2.2.2, (e _ hb').trans (keepCell hbq HCK.out), (e ⟨_, _, none⟩ hb').trans d0, (e ⟨_, _, none⟩ hb').trans d1, (e ⟨_, _, none⟩ hb').trans d2, (e ⟨_, _, none⟩ hb').trans d3, (e ⟨_, _, none⟩ hb').trans d4⟩
            have HKEEP := hid hKEEP
            clear hKEEP
            refine wp_region_ends2 (S := fun X => X.cell? ⟨w.heap.size + 1 + 1 + 1, 4, none⟩ = some (.slice o m c) ∧ X.cell? ⟨w.heap.size, 4, none⟩ = some (.slice (some b) A.length cap) ∧ X.cell? (b.add (j * 6)) = some (.string ak) ∧ X.cell? ⟨(b.add (j * 6)).block, (b.add (j * 6)).off + 1, none⟩ = some (.int .i64 at'.kd) ∧ X.cell? ⟨(b.add (j * 6)).block, (b.add (j * 6)).off + 1 + 1, none⟩ = some (.int .i64 at'.nm) ∧ X.cell? ⟨(b.add (j * 6)).block, (b.add (j * 6)).off + 1 + 2, none⟩ = some (.string at'.st) ∧ X.cell? ⟨(b.add (j * 6)).block, (b.add (j * 6)).off + 1 + 3, none⟩ = some (.slice p1 p2 p3) ∧ X.cell? ⟨(b.add (j * 6)).block, (b.add (j * 6)).off + 1 + 4, none⟩ = some (.slice p4 p5 p6)) (by simp) (by kernel_rfl) (by kernel_rfl) (by kernel_rfl) (by kernel_rfl) (by kernel_rfl) (by kernel_rfl) ?_
            simp only [List.dropLast, List.getLast_cons_cons, List.getLast_singleton, List.length_cons, List.length_nil]
            have hS0 := HKEEP.out wr.drew (Below.refl _ _).drew
            refine take_h (i := 0) (v := ?_) rfl (by kernel_rfl) (by kernel_rfl) (by kernel_rfl) (fun _ _ _ h => h) (by rfl) ?_ hS0 ?_
            rotate_left
            · (intro X hX; go_simp; try with_reducible rfl)
            simp only [Act.put, List.setIfInBounds_toArray, List.set_cons_zero, List.set_cons_succ]
            refine take_h (i := 1) (v := ?_) rfl (by kernel_rfl) (by kernel_rfl) (by kernel_rfl) (fun _ _ _ h => h) (by rfl) ?_ hS0 ?_
            rotate_left
            · (intro X hX; go_simp; try with_reducible rfl)
            simp only [Act.put, List.setIfInBounds_toArray, List.set_cons_zero, List.set_cons_succ]
            refine take_h (i := 2) (v := ?_) rfl (by kernel_rfl) (by kernel_rfl) (by kernel_rfl) (fun _ _ _ h => h) (by rfl) ?_ hS0 ?_
            rotate_left
            · (intro X hX; go_simp; try with_reducible rfl)
            simp only [Act.put, List.setIfInBounds_toArray, List.set_cons_zero, List.set_cons_succ]
            refine take_h (i := 3) (v := ?_) rfl (by kernel_rfl) (by kernel_rfl) (by kernel_rfl) (fun _ _ _ h => h) (by rfl) ?_ hS0 ?_
            rotate_left
            · (intro X hX; go_simp; try with_reducible rfl)
            simp only [Act.put, List.setIfInBounds_toArray, List.set_cons_zero, List.set_cons_succ]
            refine take_h (i := 4) (v := ?_) rfl (by kernel_rfl) (by kernel_rfl) (by kernel_rfl) (fun _ _ _ h => h) (by rfl) ?_ hS0 ?_
            rotate_left
            · (intro X hX; go_simp; try with_reducible rfl)
            simp only [Act.put, List.setIfInBounds_toArray, List.set_cons_zero, List.set_cons_succ]
            refine take_h (i := 5) (v := ?_) rfl (by kernel_rfl) (by kernel_rfl) (by kernel_rfl) (fun _ _ _ h => h) (by rfl) ?_ hS0 ?_
            rotate_left
            · (intro X hX; go_simp; try with_reducible rfl)
            simp only [Act.put, List.setIfInBounds_toArray, List.set_cons_zero, List.set_cons_succ]
            refine take_h (i := 6) (v := ?_) rfl (by kernel_rfl) (by kernel_rfl) (by kernel_rfl) (fun _ _ _ h => h) (by rfl) ?_ hS0 ?_
            rotate_left
            · (intro X hX; go_simp; try with_reducible rfl)
            simp only [Act.put, List.setIfInBounds_toArray, List.set_cons_zero, List.set_cons_succ]
            refine step_h (i := 7) rfl (by kernel_rfl) ?_
            intro KK hKK
            go_simp
            refine hKK.out _ _ (HKEEP.out _ ((Below.refl (w.heap.size + 4) wr).drew.alloc hs4 _)) (fun hS2 => ?_)
            clear hKK KK hS0
            refine step_h (i := 8) rfl (by kernel_rfl) ?_
            intro KK hKK
            refine step_append_lies _ (by rfl) _ _ _ (by rfl) (w.heap.size + 4) 54 i1 (.agg #[.string ⟨#[]⟩, .int .i64 0, .int .i64 0, .string ⟨#[]⟩, .slice none 0 0, .slice none 0 0]) 6 96 Tryz.underlying25 hi' hz0' hz1' hz2' rfl (by decide) _ _ _ (by rfl) (HRW.out.1.drew.alloc _) ⟨wr.heap.size, 0, none⟩ 1 1 (pc (ak, at', .slice p1 p2 p3, .slice p4 p5 p6)) (by rfl) rfl (new_cells wr.drew _ 54) (pc_one' _ _ _ _ _ _ _ _) (by decide) (by unfold maxLen; omega) (by omega) (by simp; omega) (wr.heap.size + 1) (by simp) ?_
            intro g9 cap9 w9 hown9 hgr9 hat9 hlt9
            have kc9 : Below (w.heap.size + 4) wr w9 := ((Below.refl (w.heap.size + 4) wr).drew.alloc hs4 _).grown hgr9 (by simp; omega) (fun q hq => by have := HRW.out.1.lt q hq; omega)
            refine hKK.out _ _ (HKEEP.out _ kc9) (fun hS3 => ?_)
            clear hKK KK hS2
            simp only [Act.put, List.setIfInBounds_toArray, List.set_cons_zero, List.set_cons_succ]
            refine take_h (i := 9) (v := ?_) rfl (by kernel_rfl) (by kernel_rfl) (by kernel_rfl) (fun _ _ _ h => h) (by rfl) ?_ hS3 ?_
            rotate_left
            · (intro X hX; go_simp; try with_reducible rfl)
            simp only [Act.put, List.setIfInBounds_toArray, List.set_cons_zero, List.set_cons_succ]
            have y9 : w9.cell? ⟨w.heap.size + 1 + 1 + 1, 4, none⟩ = some (.slice o m c) := (kc9.cell (show w.heap.size + 1 + 1 + 1 < w.heap.size + 4 by omega)).trans HST.out.2.2.2.2.1.2.2.2.2
            have z9 : w9.frozen? ⟨w.heap.size + 1 + 1 + 1, 4, none⟩ = false := (kc9.frozen (show w.heap.size + 1 + 1 + 1 < w.heap.size + 4 by omega)).trans (HST.out.2.2.2.1.frozen 4)
            clear hS3
            refine wpAnyH_done (by kernel_rfl) ?_ _
            change Oper.wp _ _ _ _ _ _
            go_simp
            go_wp2_with fail
            go_roundw
            case rel => exact ⟨j + 1, some ⟨g9, 0, none⟩, _, cap9, val_int (by omega), hlt, by rw [HWS.out]; simp, hid (by rw [HWS.out]; simpa using (WRowS.more HRW.out ⟨cks, HCV.out⟩ hown9).set 4 _), HST.out.step kc9 _⟩
            case measure => simp [intOf]; omega
          | false =>
            go_wp2_with (at_builtin; go_must (refine wpList_append_lies _ rfl _ _ _ rfl (w.heap.size + 4) 54 i1 (.agg #[.string ⟨#[]⟩, .int .i64 0, .int .i64 0, .string ⟨#[]⟩, .slice none 0 0, .slice none 0 0]) 6 96 Tryz.underlying25 hi' hz0' hz1' hz2' rfl (by decide) _ _ _ rfl (HRW.out.1.alloc _) ⟨wr.heap.size, 0, none⟩ 1 1 (pc (key, U, .slice o3 n3 c3, .slice o4 n4 c4)) rfl rfl (new_cells wr _ 54) (pc_one' _ _ _ _ _ _ _ _) (by decide) (by unfold maxLen; omega) (by omega) (by simp; omega) (wr.heap.size + 1) (by simp) ?_; intro g8 cap8 w8 hown8 hgr8 hat8 hlt8; have kc8 : Below (w.heap.size + 4) wr w8 := ((Below.refl (w.heap.size + 4) wr).alloc hs4w _).grown hgr8 (by simp; omega) (fun q hq => by have := HRW.out.1.lt q hq; omega); have y8 : w8.cell? ⟨w.heap.size + 1 + 1 + 1, 4, none⟩ = some (.slice o m c) := (kc8.cell (show w.heap.size + 1 + 1 + 1 < w.heap.size + 4 by omega)).trans g4; have z8 : w8.frozen? ⟨w.heap.size + 1 + 1 + 1, 4, none⟩ = false := (kc8.frozen (show w.heap.size + 1 + 1 + 1 < w.heap.size + 4 by omega)).trans zf; have b4' : w8.cell? ⟨w.heap.size, 4, none⟩ = some (.slice (some b) A.length cap) := (kc8.cell (show w.heap.size < w.heap.size + 4 by omega)).trans b4; have kk' : w8.cell? (b.add (j * 6)) = some (.string ak) := (kc8.cell (by rw [addr_block]; omega)).trans kk; have kk2 : (w8.setCell ⟨w.heap.size + 1 + 1 + 1, 4, none⟩ (.slice (some ⟨g8, 0, none⟩) (E.length + 1) cap8)).cell? (b.add (j * 6)) = some (.string ak) := (World.cell?_setCell_other _ _ _ _ (fun e => by have := congrArg Addr.block e; rw [addr_block] at this; simp at this; omega)).trans kk'; have b42 : (w8.setCell ⟨w.heap.size + 1 + 1 + 1, 4, none⟩ (.slice (some ⟨g8, 0, none⟩) (E.length + 1) cap8)).cell? ⟨w.heap.size, 4, none⟩ = some (.slice (some b) A.length cap) := (set_other _ _ _ _ _ _ (Or.inl (by omega))).trans b4'; go_wp2_with fail))
            have RW8 := hid ((WRowS.more (a := (key, U, .slice o3 n3 c3, .slice o4 n4 c4)) HRW.out ⟨HKS.out, HU.out⟩ hown8).set 4 (.slice (some ⟨g8, 0, none⟩) (E.length + 1) cap8))
            have ST8 := hid (HST.out.step kc8 (.slice (some ⟨g8, 0, none⟩) (E.length + 1) cap8))
            have hE2 : (E ++ [(key, U, Value.slice o3 n3 c3, Value.slice o4 n4 c4)]).length ≤ 200001 := by simp; omega
            clear hown8 hgr8 hat8 kc8 y8 z8 b4' kk' kk2 b42 b0 b1 b2 b3 b4 x0 x1 x2 x3 x4 g4 zf kk
            obtain ⟨wq, hwq⟩ : ∃ W, W = w8.setCell ⟨w.heap.size + 1 + 1 + 1, 4, none⟩ (.slice (some ⟨g8, 0, none⟩) (E.length + 1) cap8) := ⟨_, rfl⟩
            change Hid (WRowS S w (w8.setCell ⟨w.heap.size + 1 + 1 + 1, 4, none⟩ (.slice (some ⟨g8, 0, none⟩) (E.length + 1) cap8)) _ _) at RW8
            change Hid (WSt w (w8.setCell ⟨w.heap.size + 1 + 1 + 1, 4, none⟩ (.slice (some ⟨g8, 0, none⟩) (E.length + 1) cap8)) _ _ _ _ _ _ _ _ _ _ _) at ST8
            rw [← hwq] at RW8 ST8 ⊢
            clear hwq
            have hs4 := ST8.out.2.2.2.2.2.2
            have hKEEP : ∀ X, Below (w.heap.size + 4) wq X → X.cell? ⟨w.heap.size + 1 + 1 + 1, 4, none⟩ = some (.slice (some ⟨g8, 0, none⟩) (E.length + 1) cap8) ∧ X.cell? ⟨w.heap.size, 4, none⟩ = some (.slice (some b) A.length cap) ∧ X.cell? (b.add (j * 6)) = some (.string ak) ∧ X.cell? ⟨(b.add (j * 6)).block, (b.add (j * 6)).off + 1, none⟩ = some (.int .i64 at'.kd) ∧ X.cell? ⟨(b.add (j * 6)).block, (b.add (j * 6)).off + 1 + 1, none⟩ = some (.int .i64 at'.nm) ∧ X.cell? ⟨(b.add (j * 6)).block, (b.add (j * 6)).off + 1 + 2, none⟩ = some (.string at'.st) ∧ X.cell? ⟨(b.add (j * 6)).block, (b.add (j * 6)).off + 1 + 3, none⟩ = some (.slice p1 p2 p3) ∧ X.cell? ⟨(b.add (j * 6)).block, (b.add (j * 6)).off + 1 + 4, none⟩ = some (.slice p4 p5 p6) := by
              intro X hX
              have e : ∀ q : Addr, q.block < w.heap.size + 4 → X.cell? q = wq.cell? q := fun q hq => hX.cell hq
              have hb' : (b.add (j * 6)).block < w.heap.size + 4 := by rw [addr_block]; omega
              have hbq := ST8.out.2.2.2.2.2.1
              have hnode := HCN.out.onto hbq
              simp only [Node, nx] at hnode
              obtain ⟨d0, d1, d2, d3, d4⟩ := hnode
              exact ⟨(e _ (by show w.heap.size + 1 + 1 + 1 < _; omega)).trans ST8.out.2.2.2.2.1.2.2.2.2, (e _ (by show w.heap.size < _; omega)).trans ST8.out.1.2.2.2.2, (e _ hb').trans (keepCell hbq HCK.out), (e ⟨_, _, none⟩ hb').trans d0, (e ⟨_, _, none⟩ hb').trans d1, (e ⟨_, _, none⟩ hb').trans d2, (e ⟨_, _, none⟩ hb').trans d3, (e ⟨_, _, none⟩ hb').trans d4⟩
            have HKEEP := hid hKEEP
            clear hKEEP
            refine wp_region_ends2 (S := fun X => X.cell? ⟨w.heap.size + 1 + 1 + 1, 4, none⟩ = some (.slice (some ⟨g8, 0, none⟩) (E.length + 1) cap8) ∧ X.cell? ⟨w.heap.size, 4, none⟩ = some (.slice (some b) A.length cap) ∧ X.cell? (b.add (j * 6)) = some (.string ak) ∧ X.cell? ⟨(b.add (j * 6)).block, (b.add (j * 6)).off + 1, none⟩ = some (.int .i64 at'.kd) ∧ X.cell? ⟨(b.add (j * 6)).block, (b.add (j * 6)).off + 1 + 1, none⟩ = some (.int .i64 at'.nm) ∧ X.cell? ⟨(b.add (j * 6)).block, (b.add (j * 6)).off + 1 + 2, none⟩ = some (.string at'.st) ∧ X.cell? ⟨(b.add (j * 6)).block, (b.add (j * 6)).off + 1 + 3, none⟩ = some (.slice p1 p2 p3) ∧ X.cell? ⟨(b.add (j * 6)).block, (b.add (j * 6)).off + 1 + 4, none⟩ = some (.slice p4 p5 p6)) (by simp) (by kernel_rfl) (by kernel_rfl) (by kernel_rfl) (by kernel_rfl) (by kernel_rfl) (by kernel_rfl) ?_
            simp only [List.dropLast, List.getLast_cons_cons, List.getLast_singleton, List.length_cons, List.length_nil]
            have hS0 := HKEEP.out wq.drew (Below.refl _ _).drew
            refine take_h (i := 0) (v := ?_) rfl (by kernel_rfl) (by kernel_rfl) (by kernel_rfl) (fun _ _ _ h => h) (by rfl) ?_ hS0 ?_
            rotate_left
            · (intro X hX; go_simp; try with_reducible rfl)
            simp only [Act.put, List.setIfInBounds_toArray, List.set_cons_zero, List.set_cons_succ]
            refine take_h (i := 1) (v := ?_) rfl (by kernel_rfl) (by kernel_rfl) (by kernel_rfl) (fun _ _ _ h => h) (by rfl) ?_ hS0 ?_
            rotate_left
            · (intro X hX; go_simp; try with_reducible rfl)
            simp only [Act.put, List.setIfInBounds_toArray, List.set_cons_zero, List.set_cons_succ]
            refine take_h (i := 2) (v := ?_) rfl (by kernel_rfl) (by kernel_rfl) (by kernel_rfl) (fun _ _ _ h => h) (by rfl) ?_ hS0 ?_
            rotate_left
            · (intro X hX; go_simp; try with_reducible rfl)
            simp only [Act.put, List.setIfInBounds_toArray, List.set_cons_zero, List.set_cons_succ]
            refine take_h (i := 3) (v := ?_) rfl (by kernel_rfl) (by kernel_rfl) (by kernel_rfl) (fun _ _ _ h => h) (by rfl) ?_ hS0 ?_
            rotate_left
            · (intro X hX; go_simp; try with_reducible rfl)
            simp only [Act.put, List.setIfInBounds_toArray, List.set_cons_zero, List.set_cons_succ]
            refine take_h (i := 4) (v := ?_) rfl (by kernel_rfl) (by kernel_rfl) (by kernel_rfl) (fun _ _ _ h => h) (by rfl) ?_ hS0 ?_
            rotate_left
            · (intro X hX; go_simp; try with_reducible rfl)
            simp only [Act.put, List.setIfInBounds_toArray, List.set_cons_zero, List.set_cons_succ]
            refine take_h (i := 5) (v := ?_) rfl (by kernel_rfl) (by kernel_rfl) (by kernel_rfl) (fun _ _ _ h => h) (by rfl) ?_ hS0 ?_
            rotate_left
            · (intro X hX; go_simp; try with_reducible rfl)
            simp only [Act.put, List.setIfInBounds_toArray, List.set_cons_zero, List.set_cons_succ]
            refine take_h (i := 6) (v := ?_) rfl (by kernel_rfl) (by kernel_rfl) (by kernel_rfl) (fun _ _ _ h => h) (by rfl) ?_ hS0 ?_
            rotate_left
            · (intro X hX; go_simp; try with_reducible rfl)
            simp only [Act.put, List.setIfInBounds_toArray, List.set_cons_zero, List.set_cons_succ]
            refine step_h (i := 7) rfl (by kernel_rfl) ?_
            intro KK hKK
            go_simp
            refine hKK.out _ _ (HKEEP.out _ ((Below.refl (w.heap.size + 4) wq).drew.alloc hs4 _)) (fun hS2 => ?_)
            clear hKK KK hS0
            refine step_h (i := 8) rfl (by kernel_rfl) ?_
            intro KK hKK
            refine step_append_lies _ (by rfl) _ _ _ (by rfl) (w.heap.size + 4) 54 i1 (.agg #[.string ⟨#[]⟩, .int .i64 0, .int .i64 0, .string ⟨#[]⟩, .slice none 0 0, .slice none 0 0]) 6 96 Tryz.underlying25 hi' hz0' hz1' hz2' rfl (by decide) _ _ _ (by rfl) (RW8.out.1.drew.alloc _) ⟨wq.heap.size, 0, none⟩ 1 1 (pc (ak, at', .slice p1 p2 p3, .slice p4 p5 p6)) (by rfl) rfl (new_cells wq.drew _ 54) (pc_one' _ _ _ _ _ _ _ _) (by decide) (by unfold maxLen; omega) (by omega) (by simp; omega) (wq.heap.size + 1) (by simp) ?_
            intro g9 cap9 w9 hown9 hgr9 hat9 hlt9
            have kc9 : Below (w.heap.size + 4) wq w9 := ((Below.refl (w.heap.size + 4) wq).drew.alloc hs4 _).grown hgr9 (by simp; omega) (fun q hq => by have := RW8.out.1.lt q hq; omega)
            refine hKK.out _ _ (HKEEP.out _ kc9) (fun hS3 => ?_)
            clear hKK KK hS2
            simp only [Act.put, List.setIfInBounds_toArray, List.set_cons_zero, List.set_cons_succ]
            refine take_h (i := 9) (v := ?_) rfl (by kernel_rfl) (by kernel_rfl) (by kernel_rfl) (fun _ _ _ h => h) (by rfl) ?_ hS3 ?_
            rotate_left
            · (intro X hX; go_simp; try with_reducible rfl)
            simp only [Act.put, List.setIfInBounds_toArray, List.set_cons_zero, List.set_cons_succ]
            have y9 : w9.cell? ⟨w.heap.size + 1 + 1 + 1, 4, none⟩ = some (.slice (some ⟨g8, 0, none⟩) (E.length + 1) cap8) := (kc9.cell (show w.heap.size + 1 + 1 + 1 < w.heap.size + 4 by omega)).trans ST8.out.2.2.2.2.1.2.2.2.2
            have z9 : w9.frozen? ⟨w.heap.size + 1 + 1 + 1, 4, none⟩ = false := (kc9.frozen (show w.heap.size + 1 + 1 + 1 < w.heap.size + 4 by omega)).trans (ST8.out.2.2.2.1.frozen 4)
            clear hS3
            refine wpAnyH_done (by kernel_rfl) ?_ _
            change Oper.wp _ _ _ _ _ _
            go_simp
            go_wp2_with fail
            go_roundw
            case rel => exact ⟨j + 1, some ⟨g9, 0, none⟩, _, cap9, val_int (by omega), hlt, by rw [HWS.out]; rfl, hid (by rw [HWS.out]; simpa using (WRowS.more RW8.out ⟨cks, HCV.out⟩ hown9).set 4 _), ST8.out.step kc9 _⟩
            case measure => simp [intOf]; omega
    · have hjA : j = A.length := by omega
      subst hjA
      have HWL := hid (show withL key U (.slice o3 n3 c3) (.slice o4 n4 c4) A = if (withJ key U (.slice o3 n3 c3) (.slice o4 n4 c4) A A.length).2 then (withJ key U (.slice o3 n3 c3) (.slice o4 n4 c4) A A.length).1 else (withJ key U (.slice o3 n3 c3) (.slice o4 n4 c4) A A.length).1 ++ [(key, U, .slice o3 n3 c3, .slice o4 n4 c4)] from rfl)
      obtain ⟨WJ, hWJ⟩ : ∃ q, q = withJ key U (.slice o3 n3 c3) (.slice o4 n4 c4) A A.length := ⟨_, rfl⟩
      rw [← hWJ] at HRW HWL hwl ⊢
      clear hWJ
      obtain ⟨E, dn⟩ := WJ
      simp only at HRW HWL hwl ⊢
      have hEl : E.length ≤ 200000 := by omega
      cases dn with
      | true =>
        have hr2 := HST.out.2.2.1
        obtain ⟨u0, e0⟩ := hr2.cell (o := 0) (by decide)
        obtain ⟨u1, e1⟩ := hr2.cell (o := 1) (by decide)
        obtain ⟨u2, e2⟩ := hr2.cell (o := 2) (by decide)
        obtain ⟨u3, e3⟩ := hr2.cell (o := 3) (by decide)
        obtain ⟨u4, e4⟩ := hr2.cell (o := 4) (by decide)
        have z0 := hr2.frozen
        obtain ⟨f0, f1, f2, f3, f4⟩ := HST.out.2.2.2.2.1
        have e0' : wr.cell? ⟨w.heap.size + 1 + 1, 0, none⟩ = some u0 := e0
        have e1' : wr.cell? ⟨w.heap.size + 1 + 1, 1, none⟩ = some u1 := e1
        have e2' : wr.cell? ⟨w.heap.size + 1 + 1, 2, none⟩ = some u2 := e2
        have e3' : wr.cell? ⟨w.heap.size + 1 + 1, 3, none⟩ = some u3 := e3
        have e4' : wr.cell? ⟨w.heap.size + 1 + 1, 4, none⟩ = some u4 := e4
        have z0' : ∀ q, wr.frozen? ⟨w.heap.size + 1 + 1, q, none⟩ = false := z0
        have f0' : wr.cell? ⟨w.heap.size + 1 + 1 + 1, 0, none⟩ = some (.int .i64 6) := f0
        have f1' : wr.cell? ⟨w.heap.size + 1 + 1 + 1, 1, none⟩ = some (.int .i64 0) := f1
        have f2' : wr.cell? ⟨w.heap.size + 1 + 1 + 1, 2, none⟩ = some (.string ⟨#[]⟩) := f2
        have f3' : wr.cell? ⟨w.heap.size + 1 + 1 + 1, 3, none⟩ = some (.slice none 0 0) := f3
        go_wp2_with fail
        refine bodyPost_ret (v := .agg #[.int .i64 6, .int .i64 0, .string ⟨#[]⟩, .slice none 0 0, .slice o m c]) (by simp [results, Tryz.results120, go_sem, e0', e1', e2', e3', e4']) rfl ?_
        refine ⟨A, E, o, m, c, HAK.out, HAV.out, hid (by rw [HWL.out]; try rfl), rfl, ?_, ?_⟩
        · exact (((((HRW.out.setb (w.heap.size + 2) 0 (.int .i64 6) (by omega)).setb (w.heap.size + 2) 1 (.int .i64 0) (by omega)).setb (w.heap.size + 2) 2 (.string ⟨#[]⟩) (by omega)).setb (w.heap.size + 2) 3 (.slice none 0 0) (by omega)).setb (w.heap.size + 2) 4 (.slice o m c) (by omega))
        · exact vset_bel (vset_bel (vset_bel (vset_bel (vset_bel hbw (by simp <;> omega)) (by simp <;> omega)) (by simp <;> omega)) (by simp <;> omega)) (by simp <;> omega)
      | false =>
        go_wp2_with (at_builtin; go_must (refine wpList_append_lies _ rfl _ _ _ rfl (w.heap.size + 4) 54 i1 (.agg #[.string ⟨#[]⟩, .int .i64 0, .int .i64 0, .string ⟨#[]⟩, .slice none 0 0, .slice none 0 0]) 6 96 Tryz.underlying25 hi' hz0' hz1' hz2' rfl (by decide) _ _ _ rfl (HRW.out.1.alloc _) ⟨wr.heap.size, 0, none⟩ 1 1 (pc (key, U, .slice o3 n3 c3, .slice o4 n4 c4)) rfl rfl (new_cells wr _ 54) (pc_one' _ _ _ _ _ _ _ _) (by decide) (by unfold maxLen; omega) (by omega) (by simp; omega) (wr.heap.size + 1) (by simp) ?_; intro g8 cap8 w8 hown8 hgr8 hat8 hlt8; have kc8 : Below (w.heap.size + 4) wr w8 := ((Below.refl (w.heap.size + 4) wr).alloc hs4w _).grown hgr8 (by simp; omega) (fun q hq => by have := HRW.out.1.lt q hq; omega); have y8 : w8.cell? ⟨w.heap.size + 1 + 1 + 1, 4, none⟩ = some (.slice o m c) := (kc8.cell (show w.heap.size + 1 + 1 + 1 < w.heap.size + 4 by omega)).trans g4; have z8 : w8.frozen? ⟨w.heap.size + 1 + 1 + 1, 4, none⟩ = false := (kc8.frozen (show w.heap.size + 1 + 1 + 1 < w.heap.size + 4 by omega)).trans zf; have ST8 := HST.out.step kc8 (.slice (some ⟨g8, 0, none⟩) (E.length + 1) cap8); obtain ⟨u0, e0⟩ := ST8.2.2.1.cell (o := 0) (by decide); obtain ⟨u1, e1⟩ := ST8.2.2.1.cell (o := 1) (by decide); obtain ⟨u2, e2⟩ := ST8.2.2.1.cell (o := 2) (by decide); obtain ⟨u3, e3⟩ := ST8.2.2.1.cell (o := 3) (by decide); obtain ⟨u4, e4⟩ := ST8.2.2.1.cell (o := 4) (by decide); have e0' : (w8.setCell ⟨w.heap.size + 1 + 1 + 1, 4, none⟩ (.slice (some ⟨g8, 0, none⟩) (E.length + 1) cap8)).cell? ⟨w.heap.size + 1 + 1, 0, none⟩ = some u0 := e0; have e1' : (w8.setCell ⟨w.heap.size + 1 + 1 + 1, 4, none⟩ (.slice (some ⟨g8, 0, none⟩) (E.length + 1) cap8)).cell? ⟨w.heap.size + 1 + 1, 1, none⟩ = some u1 := e1; have e2' : (w8.setCell ⟨w.heap.size + 1 + 1 + 1, 4, none⟩ (.slice (some ⟨g8, 0, none⟩) (E.length + 1) cap8)).cell? ⟨w.heap.size + 1 + 1, 2, none⟩ = some u2 := e2; have e3' : (w8.setCell ⟨w.heap.size + 1 + 1 + 1, 4, none⟩ (.slice (some ⟨g8, 0, none⟩) (E.length + 1) cap8)).cell? ⟨w.heap.size + 1 + 1, 3, none⟩ = some u3 := e3; have e4' : (w8.setCell ⟨w.heap.size + 1 + 1 + 1, 4, none⟩ (.slice (some ⟨g8, 0, none⟩) (E.length + 1) cap8)).cell? ⟨w.heap.size + 1 + 1, 4, none⟩ = some u4 := e4; have z0' : ∀ q, (w8.setCell ⟨w.heap.size + 1 + 1 + 1, 4, none⟩ (.slice (some ⟨g8, 0, none⟩) (E.length + 1) cap8)).frozen? ⟨w.heap.size + 1 + 1, q, none⟩ = false := ST8.2.2.1.frozen; have f0' : (w8.setCell ⟨w.heap.size + 1 + 1 + 1, 4, none⟩ (.slice (some ⟨g8, 0, none⟩) (E.length + 1) cap8)).cell? ⟨w.heap.size + 1 + 1 + 1, 0, none⟩ = some (.int .i64 6) := ST8.2.2.2.2.1.1; have f1' : (w8.setCell ⟨w.heap.size + 1 + 1 + 1, 4, none⟩ (.slice (some ⟨g8, 0, none⟩) (E.length + 1) cap8)).cell? ⟨w.heap.size + 1 + 1 + 1, 1, none⟩ = some (.int .i64 0) := ST8.2.2.2.2.1.2.1; have f2' : (w8.setCell ⟨w.heap.size + 1 + 1 + 1, 4, none⟩ (.slice (some ⟨g8, 0, none⟩) (E.length + 1) cap8)).cell? ⟨w.heap.size + 1 + 1 + 1, 2, none⟩ = some (.string ⟨#[]⟩) := ST8.2.2.2.2.1.2.2.1; have f3' : (w8.setCell ⟨w.heap.size + 1 + 1 + 1, 4, none⟩ (.slice (some ⟨g8, 0, none⟩) (E.length + 1) cap8)).cell? ⟨w.heap.size + 1 + 1 + 1, 3, none⟩ = some (.slice none 0 0) := ST8.2.2.2.2.1.2.2.2.1; have f4' : (w8.setCell ⟨w.heap.size + 1 + 1 + 1, 4, none⟩ (.slice (some ⟨g8, 0, none⟩) (E.length + 1) cap8)).cell? ⟨w.heap.size + 1 + 1 + 1, 4, none⟩ = some (.slice (some ⟨g8, 0, none⟩) (E.length + 1) cap8) := ST8.2.2.2.2.1.2.2.2.2; generalize hwq : w8.setCell ⟨w.heap.size + 1 + 1 + 1, 4, none⟩ (.slice (some ⟨g8, 0, none⟩) (E.length + 1) cap8) = wq at e0' e1' e2' e3' e4' z0' f0' f1' f2' f3' f4'; go_wp2_with fail))
        have RQ := (WRowS.more (a := (key, U, .slice o3 n3 c3, .slice o4 n4 c4)) HRW.out ⟨HKS.out, HU.out⟩ hown8).set 4 (.slice (some ⟨g8, 0, none⟩) (E.length + 1) cap8)
        change WRowS S w (w8.setCell ⟨w.heap.size + 1 + 1 + 1, 4, none⟩ (.slice (some ⟨g8, 0, none⟩) (E.length + 1) cap8)) _ _ at RQ
        have BQ : Below w.heap.size w (w8.setCell ⟨w.heap.size + 1 + 1 + 1, 4, none⟩ (.slice (some ⟨g8, 0, none⟩) (E.length + 1) cap8)) := ST8.2.2.2.2.2.1
        rw [hwq] at RQ BQ
        refine bodyPost_ret (v := .agg #[.int .i64 6, .int .i64 0, .string ⟨#[]⟩, .slice none 0 0, .slice (some ⟨g8, 0, none⟩) (E.length + 1) cap8]) (by simp [results, Tryz.results120, go_sem, e0', e1', e2', e3', e4']) rfl ?_
        refine ⟨A, _, some ⟨g8, 0, none⟩, E.length + 1, cap8, HAK.out, HAV.out, hid (by rw [HWL.out]; try rfl), rfl, ?_, ?_⟩
        · exact (((((RQ.setb (w.heap.size + 2) 0 (.int .i64 6) (by omega)).setb (w.heap.size + 2) 1 (.int .i64 0) (by omega)).setb (w.heap.size + 2) 2 (.string ⟨#[]⟩) (by omega)).setb (w.heap.size + 2) 3 (.slice none 0 0) (by omega)).setb (w.heap.size + 2) 4 (.slice (some ⟨g8, 0, none⟩) (E.length + 1) cap8) (by omega))
        · exact vset_bel (vset_bel (vset_bel (vset_bel (vset_bel BQ (by simp <;> omega)) (by simp <;> omega)) (by simp <;> omega)) (by simp <;> omega)) (by simp <;> omega)
def WithPost (T : VT) (key : ByteArray) (U : VT) (x' y' : Value) (w : World) (e : Ending) (w' : World) : Prop := ∃ (A E : List (ByteArray × VT × Value × Value)) (o : Option Addr) (m c : Nat), A.map (·.1) = T.ks ∧ A.map (·.2.1) = T.vs ∧ Hid (E = withL key U x' y' A) ∧ e = .returned (.agg #[.int .i64 6, .int .i64 0, .string ⟨#[]⟩, .slice none 0 0, .slice o m c]) ∧ WRow w w' (.slice o m c) E ∧ Below w.heap.size w w'
end Go.Proofs.YtbeolgnognhfpaaGreatDoor
namespace Go.Proofs.YtbeolgnognhfpaaGreatDoor
open Go.RowKit

/-- the pairs of entries -/
def prs (E : List (ByteArray × VT × Value × Value)) : List (ByteArray × VT) := E.map fun a => (a.1, a.2.1)
/-- With on pairs, one after the other -/
def insP (key : ByteArray) (x : VT) : Bool → List (ByteArray × VT) → List (ByteArray × VT)
  | d, [] => if d then [] else [(key, x)]
  | d, a :: r => ((if (!d && !(ltB a.1.data.toList key.data.toList)) = true then [(key, x)] else []) ++ (if a.1.data.toList = key.data.toList then [] else [a])) ++ insP key x (d || !(ltB a.1.data.toList key.data.toList)) r
theorem fold_ins (key : ByteArray) (x : VT) (p q : Value) : ∀ (A : List (ByteArray × VT × Value × Value)) (E : List (ByteArray × VT × Value × Value)) (d : Bool),
    prs (if (A.foldl (withE key x p q) (E, d)).2 then (A.foldl (withE key x p q) (E, d)).1 else (A.foldl (withE key x p q) (E, d)).1 ++ [(key, x, p, q)]) = prs E ++ insP key x d (prs A)
  | [], E, d => by cases d <;> simp [prs, insP]
  | a :: A, E, d => by
    rw [List.foldl_cons]
    have h := fold_ins key x p q A (withE key x p q (E, d) a).1 (withE key x p q (E, d) a).2
    rw [Prod.eta] at h
    rw [h]
    show prs ((E ++ _) ++ _) ++ _ = prs E ++ (_ ++ _)
    unfold prs
    rw [List.map_append, List.map_append, List.append_assoc, List.append_assoc]
    congr 1
    rw [← List.append_assoc]
    congr 1
    congr 1
    · split <;> rfl
    · split <;> rfl
theorem with_prs (key : ByteArray) (x : VT) (p q : Value) (A : List (ByteArray × VT × Value × Value)) : prs (withL key x p q A) = insP key x false (prs A) := by
  unfold withL withJ
  rw [List.take_length, fold_ins]; rfl
/-- behind the place where it was put, nothing changes -/
theorem ins_done (key : ByteArray) (x : VT) : ∀ P : List (ByteArray × VT), (∀ a ∈ P, ¬ a.1.data.toList = key.data.toList) → insP key x true P = P
  | [], _ => by simp [insP]
  | a :: P, h => by
    rw [insP, if_neg (by simp), if_neg (h a (List.mem_cons_self ..)), Bool.true_or, ins_done key x P (fun b hb => h b (List.mem_cons_of_mem _ hb))]; rfl
theorem strict_head {a : ByteArray} {K : List ByteArray} (h : Strict (a :: K)) : ∀ b ∈ K, ltB a.data.toList b.data.toList = true := by
  intro b hb
  obtain ⟨i, hi⟩ := List.getElem?_of_mem hb
  exact h 0 (i + 1) a b (by omega) (by simp) (by simpa using hi)
theorem strict_cons {a : ByteArray} {K : List ByteArray} (h : Strict K) (ha : ∀ b ∈ K, ltB a.data.toList b.data.toList = true) : Strict (a :: K) := by
  intro i j x y hij hx hy
  cases j with
  | zero => omega
  | succ j =>
    cases i with
    | zero => simp at hx; subst hx; exact ha y (List.mem_of_getElem? (by simpa using hy))
    | succ i => exact h i j x y (by omega) (by simpa using hx) (by simpa using hy)
/-- a key that is not there: it comes to its place -/
theorem ins_new (key : ByteArray) (x : VT) : ∀ P : List (ByteArray × VT), Strict (P.map (·.1)) → (∀ a ∈ P, ¬ a.1.data.toList = key.data.toList) → Strict ((insP key x false P).map (·.1)) ∧ (insP key x false P).Perm ((key, x) :: P)
  | [], _, _ => by
    simp only [insP, Bool.false_eq_true, if_false]
    refine ⟨fun i j a b hij ha hb => ?_, List.Perm.refl _⟩
    cases j with
    | zero => omega
    | succ j => simp at hb
  | a :: P, hs, hn => by
    have hne := hn a (List.mem_cons_self ..)
    have hn' := fun b hb => hn b (List.mem_cons_of_mem a hb)
    rw [insP, if_neg hne]
    cases hl : ltB a.1.data.toList key.data.toList with
    | true =>
      obtain ⟨h1, h2⟩ := ins_new key x P (by simpa using hs.tail) hn'
      simp only [Bool.not_true, Bool.and_false, Bool.false_eq_true, if_false, Bool.or_false, List.nil_append, List.cons_append]
      refine ⟨?_, (List.Perm.cons a h2).trans (List.Perm.swap _ _ _)⟩
      rw [List.map_cons]
      refine strict_cons h1 (fun b hb => ?_)
      obtain ⟨c, hc, rfl⟩ := List.mem_map.1 hb
      rcases List.mem_cons.1 (h2.subset hc) with rfl | hc'
      · exact hl
      · exact strict_head (by simpa using hs) c.1 (List.mem_map.2 ⟨c, hc', rfl⟩)
    | false =>
      simp only [Bool.not_false, Bool.and_self, if_true, Bool.or_true, List.cons_append, List.nil_append]
      rw [ins_done key x P hn']
      have hlt : ltB key.data.toList a.1.data.toList = true := by
        rcases ltB_tri a.1.data.toList key.data.toList with ⟨h, _, _⟩ | h | ⟨_, h, _⟩
        · rw [h] at hl; cases hl
        · exact absurd h hne
        · exact h
      refine ⟨?_, List.Perm.refl _⟩
      rw [List.map_cons]
      refine strict_cons hs (fun b hb => ?_)
      rw [List.map_cons] at hb
      rcases List.mem_cons.1 hb with rfl | hb'
      · exact hlt
      · exact ltB_trans _ _ _ hlt (strict_head (by simpa using hs) b hb')
/-- what the law has put together of so many keys -/
def WInv (ks : List ByteArray) (x : VT) (j : Nat) (P : List (ByteArray × VT)) (h : Int) : Prop :=
  Strict (P.map (·.1)) ∧ (∀ a ∈ P, a.2 = x) ∧ (P.length ≤ j ∧ ∀ c, c ∈ P.map (·.1) ↔ c ∈ ks.take j) ∧ ((h = 0 ∧ P.Perm ((ks.take j).map fun c => (c, x))) ∨ (h = 5 ∧ ¬ (ks.take j).Nodup))
theorem ke_good {K : List ByteArray} (ha : adjB K = false) (h : ∀ c ∈ K, strOkB c = true) : keI K = 0 := by
  have ok : ∀ c ∈ K, teI c = 0 := fun c hc => by have := h c hc; rw [te_ok] at this; exact of_decide_eq_true this
  unfold keI
  rw [ha, show bad3 K = false by unfold bad3; rw [List.any_eq_false]; intro c hc; rw [ok c hc]; decide, show bad2 K = false by unfold bad2; rw [List.any_eq_false]; intro c hc; rw [ok c hc]; decide]; rfl
end Go.Proofs.YtbeolgnognhfpaaGreatDoor
