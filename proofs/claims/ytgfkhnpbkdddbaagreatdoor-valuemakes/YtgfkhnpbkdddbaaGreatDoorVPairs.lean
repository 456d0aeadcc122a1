/- A map's pairs as a list of entries; pairs that rise have but one order; a slice of one's own that holds pairs. -/
import Derived.Test.YtgfkhnpbkdddbaaGreatDoorVBox
import Derived.Test.YtgfkhnpbkdddbaaGreatDoorVMap
import Derived.Test.YtgfkhnpbkdddbaaGreatDoorVPlain
namespace Go.Proofs.YtgfkhnpbkdddbaaGreatDoor
open Go.RowKit

/-- the keys rise, each once -/
def Strict (K : List ByteArray) : Prop := ∀ (i j : Nat) (a b : ByteArray), i < j → K[i]? = some a → K[j]? = some b → ltB a.data.toList b.data.toList = true
theorem keys_at {K : List ByteArray} (h : keysB K = true) : ∀ (i : Nat) (c : ByteArray), K[i]? = some c → strOkB c = true := by
  intro i c hc
  unfold keysB at h
  have := (of_decide_eq_true h i (lt_of_some hc)).1
  rwa [getD_some hc] at this
theorem keys_strict {K : List ByteArray} (h : keysB K = true) : Strict K := by
  intro i j
  induction j with
  | zero => intro a b hij; omega
  | succ j ih =>
    intro a b hij ha hb
    unfold keysB at h
    have hj : j < K.length := by have := lt_of_some hb; omega
    obtain ⟨c, hc⟩ : ∃ c, K[j]? = some c := ⟨K[j], List.getElem?_eq_getElem hj⟩
    have h2 := (of_decide_eq_true h (j + 1) (lt_of_some hb)).2 (by omega)
    rw [getD_some hb, show j + 1 - 1 = j from rfl, getD_some hc] at h2
    by_cases hij2 : i = j
    · subst hij2; rw [hc] at ha; cases ha; exact h2
    · exact ltB_trans _ _ _ (ih a c (by omega) ha hc) h2
theorem Strict.ne {K : List ByteArray} (h : Strict K) {i j : Nat} {a b : ByteArray} (hij : i ≠ j) (ha : K[i]? = some a) (hb : K[j]? = some b) : ¬ a.data.toList = b.data.toList := by
  intro he
  rcases Nat.lt_or_gt_of_ne hij with h1 | h1
  · have := h i j a b h1 ha hb; rw [he, ltB_irr] at this; cases this
  · have := h j i b a h1 hb ha; rw [he, ltB_irr] at this; cases this
theorem Strict.find {K : List ByteArray} {V : List VT} (h : Strict K) {i : Nat} {c : ByteArray} {t : VT} (hc : K[i]? = some c) (ht : V[i]? = some t) : findK c K V = some t :=
  findK_some c K V i c t hc ht rfl (fun j c' hj hc' => h.ne (by omega) hc' hc)
theorem find_has (key : ByteArray) : ∀ (K : List ByteArray) (V : List VT), K.length = V.length → (findK key K V).isSome = K.any (fun c => decide (c.data.toList = key.data.toList))
  | [], V, _ => by simp [findK]
  | c :: K, [], h => by simp at h
  | c :: K, t :: V, h => by
    rw [findK, List.any_cons]
    by_cases hc : c.data.toList = key.data.toList
    · rw [if_pos hc, decide_eq_true hc]; rfl
    · rw [if_neg hc, decide_eq_false hc, Bool.false_or]; exact find_has key K V (by simpa using h)
theorem ba_ext (a b : ByteArray) (h : a.data.toList = b.data.toList) : a = b := by rw [mkS_of a _ rfl, mkS_of b _ rfl, h]
theorem Strict.tail {a : ByteArray} {K : List ByteArray} (h : Strict (a :: K)) : Strict K := fun i j x y hij hx hy => h (i + 1) (j + 1) x y (by omega) (by simpa using hx) (by simpa using hy)
theorem Rising.tail {a : ByteArray × VT} {A : List (ByteArray × VT)} (h : Rising (a :: A)) : Rising A := fun i j x y hij hx hy => h (i + 1) (j + 1) x y (by omega) (by simpa using hx) (by simpa using hy)
/-- pairs in order, of which no two keys are one, have but one order -/
theorem sorted_one : ∀ (P A : List (ByteArray × VT)), Strict (P.map (·.1)) → Rising A → A.Perm P → A = P
  | [], A, _, _, h => by simpa using h
  | p :: P, [], _, _, h => by simp at h
  | p :: P, a :: A, hs, hr, h => by
    have hap : a = p := by
      have ha : a ∈ p :: P := h.subset (List.mem_cons_self ..)
      rcases List.mem_cons.1 ha with h1 | h1
      · exact h1
      · have hp : p ∈ a :: A := h.symm.subset (List.mem_cons_self ..)
        rcases List.mem_cons.1 hp with h2 | h2
        · exact h2.symm
        · exfalso
          obtain ⟨i, hi⟩ := List.getElem?_of_mem h1
          obtain ⟨j, hj⟩ := List.getElem?_of_mem h2
          have g1 := hs 0 (i + 1) p.1 a.1 (by omega) (by simp) (by simp [hi])
          have g2 := hr 0 (j + 1) a p (by omega) (by simp) (by simpa using hj)
          rw [g1] at g2; cases g2
    subst hap
    rw [sorted_one P A (by simpa using hs.tail) hr.tail (List.Perm.cons_inv h)]
theorem strict_adj {K : List ByteArray} (h : Strict K) : adjB K = false := by
  refine adj_no fun i hi => ?_
  obtain ⟨a, ha⟩ : ∃ c, K[i]? = some c := ⟨K[i], List.getElem?_eq_getElem (by omega)⟩
  obtain ⟨b, hb⟩ : ∃ c, K[i + 1]? = some c := ⟨K[i + 1], List.getElem?_eq_getElem hi⟩
  rw [keyAt_some ha, keyAt_some hb]
  exact h.ne (by omega) ha hb
theorem keys_ke {K : List ByteArray} (h : keysB K = true) : keI K = 0 := by
  have ok : ∀ c ∈ K, teI c = 0 := by
    intro c hc
    obtain ⟨i, hi⟩ := List.getElem?_of_mem hc
    have := keys_at h i c hi
    rw [te_ok] at this
    exact of_decide_eq_true this
  have b3 : bad3 K = false := by
    unfold bad3; rw [List.any_eq_false]; intro c hc; rw [ok c hc]; decide
  have b2 : bad2 K = false := by
    unfold bad2; rw [List.any_eq_false]; intro c hc; rw [ok c hc]; decide
  unfold keI
  rw [strict_adj (keys_strict h), b3, b2]; rfl
/-- a map's entries, as they lie -/
theorem ents {w : World} {K : List ByteArray} {V : List VT} {y : Value} (h : InM w K V y) : ∃ (A : List (ByteArray × VT × Value × Value)) (b : Addr) (o : Option Addr) (cap : Nat), y = .slice o A.length cap ∧ A.length ≤ cap ∧ cap ≤ maxLen ∧ (0 < A.length → o = some b) ∧ A.map (·.1) = K ∧ A.map (·.2.1) = V ∧
    ∀ (i : Nat) (a : ByteArray × VT × Value × Value), A[i]? = some a → (w.cell? (b.add (i * 6)) = some (.string a.1) ∧ a.1.size ≤ maxLen) ∧ Node w (nx (b.add (i * 6))) a.2.1 a.2.2.1 a.2.2.2 ∧ HV w a.2.1 a.2.2.1 a.2.2.2 := by
  obtain ⟨b, p, q, ⟨o, cap, rfl, h1, h2, h3⟩, hK, cK, cM, rM⟩ := h
  have hget : ∀ i, i < V.length → ∃ c t, K[i]? = some c ∧ V[i]? = some t := fun i hi => ⟨K[i], V[i], List.getElem?_eq_getElem (by omega), List.getElem?_eq_getElem hi⟩
  refine ⟨(List.range V.length).map fun i => (K.getD i ⟨#[]⟩, V.getD i zeroT, p i, q i), b, o, cap, by simp, by simpa using h1, h2, by simpa using h3, ?_, ?_, ?_⟩
  · apply List.ext_getElem?
    intro i
    rw [List.map_map, List.getElem?_map]
    by_cases hi : i < V.length
    · obtain ⟨c, t, hc, ht⟩ := hget i hi
      rw [List.getElem?_range hi, hc]
      show some (K.getD i ⟨#[]⟩) = some c
      rw [getD_some hc]
    · rw [List.getElem?_eq_none (by simp; omega), List.getElem?_eq_none (by omega)]; rfl
  · apply List.ext_getElem?
    intro i
    rw [List.map_map, List.getElem?_map]
    by_cases hi : i < V.length
    · obtain ⟨c, t, hc, ht⟩ := hget i hi
      rw [List.getElem?_range hi, ht]
      show some (V.getD i zeroT) = some t
      rw [List.getD, ht]; rfl
    · rw [List.getElem?_eq_none (by simp; omega), List.getElem?_eq_none (by omega)]; rfl
  · intro i a ha
    rw [List.getElem?_map] at ha
    obtain ⟨j, hj, rfl⟩ := Option.map_eq_some_iff.1 ha
    have hi : i < V.length := by have := lt_of_some hj; simpa using this
    rw [List.getElem?_range hi] at hj
    cases hj
    obtain ⟨c, t, hc, ht⟩ := hget i hi
    simp only [getD_some hc, show V.getD i zeroT = t by rw [List.getD, ht]; rfl]
    exact ⟨cK i c hc, cM i t ht, rM i t ht⟩
/-- a slice of one's own that holds pairs is a slice of pairs -/
theorem own_in {w : World} {base : Nat} {v : Value} {A : List (ByteArray × VT × Value × Value)} {ty : TypeId} (h : w.ownsRow base ty 6 v A.length (A.flatMap pc)) (hA : ∀ a ∈ A, a.1.size ≤ maxLen ∧ HV w a.2.1 a.2.2.1 a.2.2.2) : InM w (A.map (·.1)) (A.map (·.2.1)) v := by
  have hc := h
  rcases hc with ⟨-, ⟨rfl, h0⟩ | ⟨g, cap, cur, rfl, -, -, hn, hcm, -, -⟩⟩
  · have : A = [] := List.eq_nil_of_length_eq_zero h0
    subst this
    exact in_nil w
  have key : ∀ (i : Nat) (a : ByteArray × VT × Value × Value), A[i]? = some a → ∀ (c : Nat) (u : Value), (pc a)[c]? = some u → w.cell? ⟨g, i * 6 + c, none⟩ = some u := by
    intro i a ha c u hu
    have hi := lt_of_some ha
    have hc : c < 6 := lt_of_some hu
    rw [h.cellAt (i * 6 + c) (by omega), flat_at pc 6 (fun _ => rfl) A i c a ha hc]
    exact hu
  refine ⟨⟨g, 0, none⟩, fun i => ((A[i]?).map fun a => a.2.2.1).getD .nilIface, fun i => ((A[i]?).map fun a => a.2.2.2).getD .nilIface, ⟨_, _, by simp, by simpa using hn, hcm, fun _ => rfl⟩, by simp, fun i u hu => ?_, fun i t ht => ?_, fun i t ht => ?_⟩
  · rw [List.getElem?_map] at hu
    obtain ⟨a, ha, rfl⟩ := Option.map_eq_some_iff.1 hu
    rw [add_at]
    exact ⟨key i a ha 0 _ rfl, (hA a (List.mem_of_getElem? ha)).1⟩
  · rw [List.getElem?_map] at ht
    obtain ⟨a, ha, rfl⟩ := Option.map_eq_some_iff.1 ht
    rw [add_at]
    simp only [ha, Option.map_some, Option.getD_some]
    exact ⟨key i a ha 1 _ rfl, key i a ha 2 _ rfl, key i a ha 3 _ rfl, key i a ha 4 _ rfl, key i a ha 5 _ rfl⟩
  · rw [List.getElem?_map] at ht
    obtain ⟨a, ha, rfl⟩ := Option.map_eq_some_iff.1 ht
    simp only [ha, Option.map_some, Option.getD_some]
    exact (hA a (List.mem_of_getElem? ha)).2
/-- the entries from a place on, the last first -/
def backs (A : List (ByteArray × VT × Value × Value)) (j : Nat) : List (ByteArray × VT × Value × Value) := (A.drop (A.length - j)).reverse
theorem backs_len {A : List (ByteArray × VT × Value × Value)} {j : Nat} (h : j ≤ A.length) : (backs A j).length = j := by unfold backs; simp; omega
theorem backs_succ {A : List (ByteArray × VT × Value × Value)} {j : Nat} {a : ByteArray × VT × Value × Value} (h : j < A.length) (ha : A[A.length - 1 - j]? = some a) : backs A (j + 1) = backs A j ++ [a] := by
  unfold backs
  have hx : A.length - (j + 1) = A.length - 1 - j := by omega
  have hy : A.length - j = A.length - 1 - j + 1 := by omega
  rw [hx, hy, List.drop_eq_getElem_cons (i := A.length - 1 - j) (by omega), List.reverse_cons]
  have := (List.getElem?_eq_some_iff.1 ha).2
  rw [this]
theorem backs_all (A : List (ByteArray × VT × Value × Value)) : backs A A.length = A.reverse := by unfold backs; simp
/-- is the key among the last so many? -/
def hasB (A : List (ByteArray × VT × Value × Value)) (key : ByteArray) (j : Nat) : Bool := (backs A j).any fun a => decide (a.1.data.toList = key.data.toList)
theorem hasB_succ {A : List (ByteArray × VT × Value × Value)} {key : ByteArray} {j : Nat} {a : ByteArray × VT × Value × Value} (h : j < A.length) (ha : A[A.length - 1 - j]? = some a) : hasB A key (j + 1) = (hasB A key j || decide (a.1.data.toList = key.data.toList)) := by
  unfold hasB; rw [backs_succ h ha]; simp
theorem hasB_all (A : List (ByteArray × VT × Value × Value)) (key : ByteArray) : hasB A key A.length = (A.map (·.1)).any fun c => decide (c.data.toList = key.data.toList) := by
  unfold hasB; rw [backs_all, List.any_reverse, List.any_map]; rfl
theorem backs_mem {A : List (ByteArray × VT × Value × Value)} {j : Nat} {a : ByteArray × VT × Value × Value} (h : a ∈ backs A j) : a ∈ A := by
  unfold backs at h; exact List.mem_of_mem_drop (List.mem_reverse.1 h)
theorem pc_one {a : ByteArray × VT × Value × Value} {o n c o' n' c'} (h1 : a.2.2.1 = .slice o n c) (h2 : a.2.2.2 = .slice o' n' c') : ∀ u ∈ pc a, u.oneCell' = true := by
  intro u hu
  unfold pc at hu
  rw [h1, h2] at hu
  simp at hu
  rcases hu with rfl | rfl | rfl | rfl | rfl | rfl <;> rfl
/-- what Map makes of a map's pairs in another order -/
theorem map_back {A : List (ByteArray × VT × Value × Value)} {A' : List (ByteArray × VT)} (hs : keysB (A.map (·.1)) = true) (hp : A'.Perm ((backs A A.length).map fun a => (a.1, a.2.1))) (hr : Rising A') :
    A'.map (·.1) = A.map (·.1) ∧ mapR A' = .mk 6 0 ⟨#[]⟩ [] (A.map (·.1)) (A.map (·.2.1)) := by
  have e : A' = A.map fun a => (a.1, a.2.1) := by
    refine sorted_one _ _ ?_ hr (hp.trans ?_)
    · rw [List.map_map]; exact keys_strict hs
    · rw [backs_all, List.map_reverse]; exact List.reverse_perm _
  have e1 : A'.map (·.1) = A.map (·.1) := by rw [e, List.map_map]; rfl
  refine ⟨e1, ?_⟩
  unfold mapR
  rw [e1, keys_ke hs, if_pos rfl, e, List.map_map]; rfl
/-- a map that may be: nothing but its pairs, whose keys rise -/
theorem map_node {T : VT} (h : mayB 0 1 T = true) (h6 : T.kd = 6) : T = .mk 6 0 ⟨#[]⟩ [] T.ks T.vs ∧ keysB T.ks = true := by
  have hn := (good_node h).2.2
  cases T with
  | mk k n s L K V =>
    simp only [VT.kd] at h6
    subst h6
    unfold nodeB nodeC at hn
    simp only [VT.kd, VT.nm, VT.st, VT.ls, VT.ks, VT.vs] at hn ⊢
    simp only [show ¬ (6 : Int) = 0 by decide, show ¬ (6 : Int) = 1 by decide, show ¬ (6 : Int) = 2 by decide, show ¬ (6 : Int) = 3 by decide, show ¬ (6 : Int) = 4 by decide, show ¬ (6 : Int) = 7 by decide, show ¬ (6 : Int) = 5 by decide, if_false, if_true, Bool.and_eq_true] at hn
    obtain ⟨⟨⟨h1, h2⟩, h3⟩, h4⟩ := hn
    have e1 : n = 0 := by simpa using h1
    have e2 : L = [] := by
      have : L.length = 0 := by have := of_decide_eq_true h3; simpa using this
      exact List.eq_nil_of_length_eq_zero this
    have e3 : s = ⟨#[]⟩ := by
      refine ba_ext _ _ ?_
      rw [Lib.toList_data] at h2
      simpa using h2
    subst e1 e2 e3
    exact ⟨rfl, h4⟩
end Go.Proofs.YtgfkhnpbkdddbaaGreatDoor
