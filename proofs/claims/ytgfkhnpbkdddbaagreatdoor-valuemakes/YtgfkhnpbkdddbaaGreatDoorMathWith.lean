/- With on rising keys: one key more in its place, or the same keys; what Map makes of the same keys. -/
import Derived.Test.YtgfkhnpbkdddbaaGreatDoorRefWith
import Derived.Test.YtgfkhnpbkdddbaaGreatDoorVPlus
import Derived.Test.YtgfkhnpbkdddbaaGreatDoorVPlain
namespace Go.Proofs.YtgfkhnpbkdddbaaGreatDoor
open Go.RowKit

/-- the pairs of entries -/
def prs (E : List (ByteArray × VT × Value × Value)) : List (ByteArray × VT) := E.map fun a => (a.1, a.2.1)
/-- With on pairs, one after the other -/
def insP (key : ByteArray) (x : VT) : Bool → List (ByteArray × VT) → List (ByteArray × VT)
  | d, [] => if d then [] else [(key, x)]
  | d, a :: r => ((if (!d && !(ltB a.1.data.toList key.data.toList)) = true then [(key, x)] else []) ++ (if a.1.data.toList = key.data.toList then [] else [a])) ++ insP key x (d || !(ltB a.1.data.toList key.data.toList)) r
theorem fold_ins (key : ByteArray) (x : VT) (p q : Value) : ∀ (A : List (ByteArray × VT × Value × Value)) (E : List (ByteArray × VT × Value × Value)) (d : Bool),
    prs (if (A.foldl (withE key x p q) (E, d)).2 then (A.foldl (withE key x p q) (E, d)).1 else (A.foldl (withE key x p q) (E, d)).1 ++ [(key, x, p, q)]) = prs E ++ insP key x d (prs A)
  | [], E, d => by cases d <;> simp [prs, insP]
  | a :: A, E, d => by
    rw [List.foldl_cons]
    have h := fold_ins key x p q A (withE key x p q (E, d) a).1 (withE key x p q (E, d) a).2
    rw [Prod.eta] at h
    rw [h]
    show prs ((E ++ _) ++ _) ++ _ = prs E ++ (_ ++ _)
    unfold prs
    rw [List.map_append, List.map_append, List.append_assoc, List.append_assoc]
    congr 1
    rw [← List.append_assoc]
    congr 1
    congr 1
    · split <;> rfl
    · split <;> rfl
theorem with_prs (key : ByteArray) (x : VT) (p q : Value) (A : List (ByteArray × VT × Value × Value)) : prs (withL key x p q A) = insP key x false (prs A) := by
  unfold withL withJ
  rw [List.take_length, fold_ins]; rfl
/-- behind the place where it was put, nothing changes -/
theorem ins_done (key : ByteArray) (x : VT) : ∀ P : List (ByteArray × VT), (∀ a ∈ P, ¬ a.1.data.toList = key.data.toList) → insP key x true P = P
  | [], _ => by simp [insP]
  | a :: P, h => by
    rw [insP, if_neg (by simp), if_neg (h a (List.mem_cons_self ..)), Bool.true_or, ins_done key x P (fun b hb => h b (List.mem_cons_of_mem _ hb))]; rfl
theorem strict_head {a : ByteArray} {K : List ByteArray} (h : Strict (a :: K)) : ∀ b ∈ K, ltB a.data.toList b.data.toList = true := by
  intro b hb
  obtain ⟨i, hi⟩ := List.getElem?_of_mem hb
  exact h 0 (i + 1) a b (by omega) (by simp) (by simpa using hi)
theorem strict_cons {a : ByteArray} {K : List ByteArray} (h : Strict K) (ha : ∀ b ∈ K, ltB a.data.toList b.data.toList = true) : Strict (a :: K) := by
  intro i j x y hij hx hy
  cases j with
  | zero => omega
  | succ j =>
    cases i with
    | zero => simp at hx; subst hx; exact ha y (List.mem_of_getElem? (by simpa using hy))
    | succ i => exact h i j x y (by omega) (by simpa using hx) (by simpa using hy)
/-- a key that is not there: it comes to its place -/
theorem ins_new (key : ByteArray) (x : VT) : ∀ P : List (ByteArray × VT), Strict (P.map (·.1)) → (∀ a ∈ P, ¬ a.1.data.toList = key.data.toList) → Strict ((insP key x false P).map (·.1)) ∧ (insP key x false P).Perm ((key, x) :: P)
  | [], _, _ => by
    simp only [insP, Bool.false_eq_true, if_false]
    refine ⟨fun i j a b hij ha hb => ?_, List.Perm.refl _⟩
    cases j with
    | zero => omega
    | succ j => simp at hb
  | a :: P, hs, hn => by
    have hne := hn a (List.mem_cons_self ..)
    have hn' := fun b hb => hn b (List.mem_cons_of_mem a hb)
    rw [insP, if_neg hne]
    cases hl : ltB a.1.data.toList key.data.toList with
    | true =>
      obtain ⟨h1, h2⟩ := ins_new key x P (by simpa using hs.tail) hn'
      simp only [Bool.not_true, Bool.and_false, Bool.false_eq_true, if_false, Bool.or_false, List.nil_append, List.cons_append]
      refine ⟨?_, (List.Perm.cons a h2).trans (List.Perm.swap _ _ _)⟩
      rw [List.map_cons]
      refine strict_cons h1 (fun b hb => ?_)
      obtain ⟨c, hc, rfl⟩ := List.mem_map.1 hb
      rcases List.mem_cons.1 (h2.subset hc) with rfl | hc'
      · exact hl
      · exact strict_head (by simpa using hs) c.1 (List.mem_map.2 ⟨c, hc', rfl⟩)
    | false =>
      simp only [Bool.not_false, Bool.and_self, if_true, Bool.or_true, List.cons_append, List.nil_append]
      rw [ins_done key x P hn']
      have hlt : ltB key.data.toList a.1.data.toList = true := by
        rcases ltB_tri a.1.data.toList key.data.toList with ⟨h, _, _⟩ | h | ⟨_, h, _⟩
        · rw [h] at hl; cases hl
        · exact absurd h hne
        · exact h
      refine ⟨?_, List.Perm.refl _⟩
      rw [List.map_cons]
      refine strict_cons hs (fun b hb => ?_)
      rw [List.map_cons] at hb
      rcases List.mem_cons.1 hb with rfl | hb'
      · exact hlt
      · exact ltB_trans _ _ _ hlt (strict_head (by simpa using hs) b hb')
/-- a key that is there, with the same value: all stays -/
theorem ins_old (key : ByteArray) (x : VT) : ∀ P : List (ByteArray × VT), Strict (P.map (·.1)) → (key, x) ∈ P → insP key x false P = P
  | [], _, h => by simp at h
  | a :: P, hs, h => by
    have hh := strict_head (by simpa using hs : Strict (a.1 :: P.map (·.1)))
    by_cases he : a.1.data.toList = key.data.toList
    · have ha : a = (key, x) := by
        rcases List.mem_cons.1 h with h1 | h1
        · exact h1.symm
        · have := hh key (List.mem_map.2 ⟨_, h1, rfl⟩)
          rw [he, ltB_irr] at this; cases this
      rw [insP, if_pos he, ha]
      simp only [ltB_irr, Bool.not_false, Bool.and_self, if_true, Bool.or_true, List.cons_append, List.nil_append, List.append_nil]
      rw [ins_done key x P (fun b hb hb' => by
        have := hh b.1 (List.mem_map.2 ⟨b, hb, rfl⟩)
        rw [he, hb', ltB_irr] at this; cases this)]
    · have hm : (key, x) ∈ P := by
        rcases List.mem_cons.1 h with h1 | h1
        · exact absurd (by rw [← h1]) he
        · exact h1
      have hl := hh key (List.mem_map.2 ⟨_, hm, rfl⟩)
      rw [insP, if_neg he, hl]
      simp only [Bool.not_true, Bool.and_false, Bool.false_eq_true, if_false, Bool.or_false, List.nil_append, List.cons_append]
      rw [ins_old key x P (by simpa using hs.tail) hm]
theorem mem_find (c : ByteArray) (P : List (ByteArray × VT)) : (findK c (P.map (·.1)) (P.map (·.2))).isSome = true ↔ c ∈ P.map (·.1) := by
  rw [find_has c _ _ (by simp), List.any_eq_true]
  constructor
  · rintro ⟨d, hd, he⟩
    have := ba_ext d c (of_decide_eq_true he)
    rw [← this]; exact hd
  · intro h; exact ⟨c, h, decide_eq_true rfl⟩
/-- what the law has put together of so many keys -/
def WInv (ks : List ByteArray) (x : VT) (j : Nat) (P : List (ByteArray × VT)) (h : Int) : Prop :=
  Strict (P.map (·.1)) ∧ (∀ a ∈ P, a.2 = x) ∧ (P.length ≤ j ∧ ∀ c, c ∈ P.map (·.1) ↔ c ∈ ks.take j) ∧ ((h = 0 ∧ P.Perm ((ks.take j).map fun c => (c, x))) ∨ (h = 5 ∧ ¬ (ks.take j).Nodup))
theorem winv_zero (ks : List ByteArray) (x : VT) : WInv ks x 0 [] 0 := by
  refine ⟨fun i j a b _ ha => by simp at ha, fun a ha => by simp at ha, ⟨Nat.le_refl _, fun c => by simp⟩, Or.inl ⟨rfl, by simp⟩⟩
theorem winv_old {ks : List ByteArray} {x : VT} {j : Nat} {P : List (ByteArray × VT)} {h : Int} {c : ByteArray} (hI : WInv ks x j P h) (hc : ks[j]? = some c) (hm : c ∈ P.map (·.1)) : insP c x false P = P ∧ WInv ks x (j + 1) P 5 := by
  obtain ⟨h1, h2, ⟨hlen, h3⟩, h4⟩ := hI
  have hmk := (h3 c).1 hm
  obtain ⟨a, ha, hac⟩ := List.mem_map.1 hm
  have hin : (c, x) ∈ P := by
    have : a = (c, x) := by rw [← hac, ← h2 a ha]
    rw [← this]; exact ha
  refine ⟨ins_old c x P h1 hin, h1, h2, ⟨by omega, fun d => ?_⟩, Or.inr ⟨rfl, ?_⟩⟩
  · rw [h3 d, List.take_add_one, hc]
    simp only [Option.toList_some, List.mem_append, List.mem_singleton]
    exact ⟨Or.inl, fun h => h.elim id (fun e => by rw [e]; exact hmk)⟩
  · rw [List.take_add_one, hc]
    simp only [Option.toList_some]
    intro hnd
    exact (List.nodup_append.1 hnd).2.2 c hmk c (List.mem_singleton.2 rfl) rfl
theorem winv_new {ks : List ByteArray} {x : VT} {j : Nat} {P : List (ByteArray × VT)} {h : Int} {c : ByteArray} (hI : WInv ks x j P h) (hc : ks[j]? = some c) (hm : ¬ c ∈ P.map (·.1)) : WInv ks x (j + 1) (insP c x false P) h := by
  obtain ⟨h1, h2, ⟨hlen, h3⟩, h4⟩ := hI
  have hne : ∀ a ∈ P, ¬ a.1.data.toList = c.data.toList := fun a ha he => hm (List.mem_map.2 ⟨a, ha, ba_ext _ _ he⟩)
  obtain ⟨g1, g2⟩ := ins_new c x P h1 hne
  refine ⟨g1, fun a ha => ?_, ⟨by rw [g2.length_eq]; simp only [List.length_cons]; omega, fun d => ?_⟩, ?_⟩
  · rcases List.mem_cons.1 (g2.subset ha) with rfl | h'
    · rfl
    · exact h2 a h'
  · have e : d ∈ (insP c x false P).map (·.1) ↔ d ∈ ((c, x) :: P).map (·.1) := (g2.map (·.1)).mem_iff
    rw [e, List.map_cons, List.mem_cons, h3 d, List.take_add_one, hc]
    simp only [Option.toList_some, List.mem_append, List.mem_singleton]
    exact ⟨fun h => h.elim Or.inr Or.inl, fun h => h.elim Or.inr Or.inl⟩
  · rw [List.take_add_one, hc]
    simp only [Option.toList_some]
    rcases h4 with ⟨h4, h5⟩ | ⟨h4, h5⟩
    · refine Or.inl ⟨h4, ?_⟩
      rw [List.map_append]
      refine g2.trans ((List.Perm.cons _ h5).trans ?_)
      exact (List.perm_append_singleton _ _).symm
    · refine Or.inr ⟨h4, fun hnd => h5 (List.nodup_append.1 hnd).1⟩
theorem strict_nodup {K : List ByteArray} (h : Strict K) : K.Nodup := by
  unfold List.Nodup
  rw [List.pairwise_iff_getElem]
  intro i j hi hj hij he
  have := h i j K[i] K[j] hij (List.getElem?_eq_getElem hi) (List.getElem?_eq_getElem hj)
  rw [he, ltB_irr] at this; cases this
theorem fst_map (x : VT) : ∀ ks : List ByteArray, (ks.map fun c => (c, x)).map (·.1) = ks
  | [] => rfl
  | a :: r => by rw [List.map_cons, List.map_cons, fst_map x r]
theorem rising_strict {A : List (ByteArray × VT)} (hr : Rising A) (ha : adjB (A.map (·.1)) = false) : Strict (A.map (·.1)) := by
  have adj : ∀ i a b, (A.map (·.1))[i]? = some a → (A.map (·.1))[i + 1]? = some b → ltB a.data.toList b.data.toList = true := by
    intro i a b h1 h2
    have hne : ¬ a.data.toList = b.data.toList := fun e => by rw [adj_yes h1 h2 e] at ha; cases ha
    rw [List.getElem?_map] at h1 h2
    obtain ⟨p, hp, rfl⟩ := Option.map_eq_some_iff.1 h1
    obtain ⟨q, hq, rfl⟩ := Option.map_eq_some_iff.1 h2
    have := hr i (i + 1) p q (by omega) hp hq
    rcases ltB_tri p.1.data.toList q.1.data.toList with ⟨h, _, _⟩ | h | ⟨_, h, _⟩
    · exact h
    · exact absurd h hne
    · rw [h] at this; cases this
  intro i j
  induction j with
  | zero => intro a b hij; omega
  | succ j ih =>
    intro a b hij h1 h2
    by_cases e : i = j
    · subst e; exact adj i a b h1 h2
    · have hj : j < (A.map (·.1)).length := by have := lt_of_some h2; omega
      obtain ⟨c, hc⟩ : ∃ c, (A.map (·.1))[j]? = some c := ⟨_, List.getElem?_eq_getElem hj⟩
      exact ltB_trans _ _ _ (ih a c (by omega) h1 hc) (adj j c b hc h2)
/-- what Map answers to the law's pairs -/
theorem map_says {ks : List ByteArray} {x : VT} {P A' : List (ByteArray × VT)} {h : Int} (hI : WInv ks x ks.length P h) (hp : A'.Perm (ks.map fun c => (c, x))) (hr : Rising A') :
    (h = 5 ∧ keI (A'.map (·.1)) = 5) ∨ (h = 0 ∧ A' = P ∧ adjB (P.map (·.1)) = false) := by
  obtain ⟨h1, h2, ⟨hlen, h3⟩, h4⟩ := hI
  rw [List.take_length] at h4
  rcases h4 with ⟨h4, h5⟩ | ⟨h4, h5⟩
  · exact Or.inr ⟨h4, sorted_one P A' h1 hr (hp.trans h5.symm), strict_adj h1⟩
  · refine Or.inl ⟨h4, ?_⟩
    unfold keI
    cases ha : adjB (A'.map (·.1)) with
    | true => rfl
    | false =>
      exfalso
      apply h5
      have h6 := strict_nodup (rising_strict hr ha)
      have e : (A'.map (·.1)).Perm ks := by
        have := hp.map (·.1)
        rw [fst_map] at this
        exact this
      exact (e.nodup_iff).1 h6
theorem ke_bad {K : List ByteArray} {c : ByteArray} (ha : adjB K = false) (hc : c ∈ K) (hb : strOkB c = false) : keI K = 3 ∨ keI K = 2 := by
  rw [te_ok, decide_eq_false_iff_not] at hb
  unfold keI
  rw [ha]
  rcases te_three c with h | h | h
  · exact absurd h hb
  · cases h3 : bad3 K with
    | true => exact Or.inl rfl
    | false =>
      right
      have : bad2 K = true := by unfold bad2; rw [List.any_eq_true]; exact ⟨c, hc, decide_eq_true h⟩
      rw [this]; rfl
  · left
    have : bad3 K = true := by unfold bad3; rw [List.any_eq_true]; exact ⟨c, hc, decide_eq_true h⟩
    rw [this]; rfl
theorem ke_good {K : List ByteArray} (ha : adjB K = false) (h : ∀ c ∈ K, strOkB c = true) : keI K = 0 := by
  have ok : ∀ c ∈ K, teI c = 0 := fun c hc => by have := h c hc; rw [te_ok] at this; exact of_decide_eq_true this
  unfold keI
  rw [ha, show bad3 K = false by unfold bad3; rw [List.any_eq_false]; intro c hc; rw [ok c hc]; decide, show bad2 K = false by unfold bad2; rw [List.any_eq_false]; intro c hc; rw [ok c hc]; decide]; rfl
theorem strict_keys {K : List ByteArray} (hs : Strict K) (h : ∀ c ∈ K, strOkB c = true) : keysB K = true := by
  unfold keysB
  refine decide_eq_true fun i hi => ?_
  obtain ⟨c, hc⟩ : ∃ c, K[i]? = some c := ⟨K[i], List.getElem?_eq_getElem hi⟩
  rw [getD_some hc]
  refine ⟨h c (List.mem_of_getElem? hc), fun h0 => ?_⟩
  obtain ⟨b, hb⟩ : ∃ c, K[i - 1]? = some c := ⟨K[i - 1], List.getElem?_eq_getElem (by omega)⟩
  rw [getD_some hb]
  exact hs (i - 1) i b c (by omega) hb hc
/-- the map may be -/
theorem map_may {P : List (ByteArray × VT)} {n : Int} (hs : Strict (P.map (·.1))) (h : ∀ c ∈ P.map (·.1), strOkB c = true) (hv : ∀ a ∈ P, a.2 = leafT 2 n ⟨#[]⟩) (hl : P.length ≤ 20) : mayB 0 1 (.mk 6 0 ⟨#[]⟩ [] (P.map (·.1)) (P.map (·.2))) = true := by
  have hV : ∀ t ∈ P.map (·.2), t = leafT 2 n ⟨#[]⟩ := fun t ht => by obtain ⟨a, ha, rfl⟩ := List.mem_map.1 ht; exact hv a ha
  have hsz : ∀ L : List VT, (∀ t ∈ L, t = leafT 2 n ⟨#[]⟩) → szL L = L.length := by
    intro L
    induction L with
    | nil => intro _; rfl
    | cons t r ih =>
      intro h
      rw [szL, ih (fun t ht => h t (List.mem_cons_of_mem _ ht)), h t (List.mem_cons_self ..)]
      simp only [leafT, szT, szL, List.length_cons]; omega
  refine good_all (by decide) ?_ ?_ (fun i t ht => by simp [VT.ls] at ht) (fun i t ht => ?_)
  · simp only [VT.ls, VT.vs, szL]
    rw [hsz _ hV]; simp; omega
  · unfold nodeB nodeC
    simp only [VT.kd, VT.nm, VT.st, VT.ls, VT.ks, VT.vs]
    rw [strict_keys hs h]
    simp
  · obtain rfl := hV t (List.mem_of_getElem? ht)
    refine ⟨by simp [leafT, hgT, hgL], ?_⟩
    simp only [leafT, plainT, plainL, Bool.and_true]
    unfold nodeB nodeC
    simp [VT.kd, VT.st, VT.ls, VT.vs]
end Go.Proofs.YtgfkhnpbkdddbaaGreatDoor
