/- Plain mathematics: what is read of JSON is a value that may be, without a stamp. -/
import Derived.Test.YtkhjahpkbjafaaaGreatDoorUMathEq
import Derived.Test.YtkhjahpkbjafaaaGreatDoorUJpI
import Derived.Test.YtkhjahpkbjafaaaGreatDoorURef8All
import Derived.Test.YtkhjahpkbjafaaaGreatDoorUJrTwo
namespace Go.Proofs.YtkhjahpkbjafaaaGreatDoor
open Go.RowKit

/-- a tree that may stand so deep, without a stamp -/
def Gd (d : Nat) (t : VT) : Prop := plainT t = true ∧ smB t = false ∧ d + hgT t ≤ 33
theorem gd_leaf {d : Nat} {k n : Int} {s : ByteArray} (hn : nodeB (leafT k n s) = true) (hk : ¬ k = 7) (hd : d ≤ 32) : Gd d (leafT k n s) ∧ szT (leafT k n s) = 1 := by
  refine ⟨⟨?_, ?_, ?_⟩, ?_⟩
  · unfold leafT at hn ⊢; rw [plainT, hn]; rfl
  · unfold leafT; rw [smB, decide_eq_false hk]; rfl
  · unfold leafT; rw [hgT]; simp only [hgL]; omega
  · unfold leafT; rw [szT]; simp only [szL]
theorem nil_is : (⟨#[]⟩ : ByteArray).toList.isEmpty = true := by rw [ByteArray.toList_eq]; rfl
theorem int_node (n : Int) : nodeB (leafT 2 n ⟨#[]⟩) = true := by
  unfold nodeB leafT; simp only [VT.kd, VT.nm, VT.st, VT.ls, VT.vs, VT.ks, nil_is]; rfl
theorem bool_node : nodeB (leafT 1 1 ⟨#[]⟩) = true ∧ nodeB (leafT 1 0 ⟨#[]⟩) = true ∧ nodeB (leafT 0 0 ⟨#[]⟩) = true := by
  refine ⟨?_, ?_, ?_⟩ <;> (unfold nodeB leafT; simp only [VT.kd, VT.nm, VT.st, VT.ls, VT.vs, VT.ks, nil_is]; rfl)
theorem list_node (L : List VT) : nodeB (.mk 5 0 ⟨#[]⟩ L [] []) = true := by
  unfold nodeB; simp only [VT.kd, VT.nm, VT.st, VT.ls, VT.vs, VT.ks, nil_is]; rfl
theorem map_node6 {K : List ByteArray} {V : List VT} (h : keysB K = true) : nodeB (.mk 6 0 ⟨#[]⟩ [] K V) = true := by
  unfold nodeB; simp only [VT.kd, VT.nm, VT.st, VT.ls, VT.vs, VT.ks, nil_is, h]; rfl
theorem num_gd {d : Nat} {s : List UInt8} (h : numB s = true) (hd : d ≤ 32) : Gd d (numT s) ∧ szT (numT s) = 1 := by
  unfold numT
  by_cases hi : intB s = true
  · rw [if_pos hi]
    exact gd_leaf (int_node _) (by decide) hd
  · rw [if_neg hi]
    refine gd_leaf ?_ (by decide) hd
    show (true && (numB (mkS s).data.toList && !intB (mkS s).data.toList) && true && true) = true
    rw [mkS_list, h, eq_false_of_ne_true hi]; rfl
theorem lit_gd {d : Nat} (s : List UInt8) (hd : d ≤ 32) : Gd d (litT s) ∧ szT (litT s) = 1 := by
  unfold litT
  split
  · exact gd_leaf bool_node.1 (by decide) hd
  · split
    · exact gd_leaf bool_node.2.1 (by decide) hd
    · exact gd_leaf bool_node.2.2 (by decide) hd
theorem gl_parts {d : Nat} {L : List VT} (hd : d ≤ 32) (h : ∀ t ∈ L, Gd (d + 1) t) : plainL L = true ∧ smL L = false ∧ d + 1 + hgL L ≤ 33 := by
  refine ⟨(plainL_get L).2 fun i t ht => (h t (List.mem_of_getElem? ht)).1, (smL_get L).2 fun i t ht => (h t (List.mem_of_getElem? ht)).2.1, ?_⟩
  have : hgL L ≤ 32 - d := (hgL_get L _).2 fun i t ht => (by have := (h t (List.mem_of_getElem? ht)).2.2; omega)
  omega
theorem list_gd {d : Nat} {L : List VT} (hd : d ≤ 32) (h : ∀ t ∈ L, Gd (d + 1) t) : Gd d (listT L) ∧ szT (listT L) = 1 + szL L := by
  obtain ⟨h1, h2, h3⟩ := gl_parts hd h
  refine ⟨⟨?_, ?_, ?_⟩, ?_⟩
  · unfold listT; rw [plainT, h1, list_node]; rfl
  · unfold listT; rw [smB, h2]; rfl
  · unfold listT; rw [hgT]; simp only [hgL]; omega
  · unfold listT; rw [szT]; simp only [szL]; omega
theorem map_gd {d : Nat} {P : List (ByteArray × VT)} (hd : d ≤ 32) (hs : Strict (P.map (·.1))) (hte : ∀ c ∈ P.map (·.1), teI c = 0) (h : ∀ a ∈ P, Gd (d + 1) a.2) : Gd d (mapT P) ∧ szT (mapT P) = 1 + szL (P.map (·.2)) := by
  obtain ⟨h1, h2, h3⟩ := gl_parts (L := P.map (·.2)) hd (fun t ht => by obtain ⟨a, ha, rfl⟩ := List.mem_map.1 ht; exact h a ha)
  have hk : keysB (P.map (·.1)) = true := strict_keys hs (fun c hc => by rw [te_ok, decide_eq_true (hte c hc)])
  refine ⟨⟨?_, ?_, ?_⟩, ?_⟩
  · unfold mapT; rw [plainT, h1, map_node6 hk]; rfl
  · unfold mapT; rw [smB, h2]; rfl
  · unfold mapT; rw [hgT]; simp only [hgL]; omega
  · unfold mapT; rw [szT]; simp only [szL]; try omega
theorem tail_mem {q ws : List Wd} (h : q <:+ ws) (hf : ∀ x ∈ ws, Fine x) : ∀ x ∈ q.tail, Fine x := fun x hx => hf x ((tail_suf h).mem hx)
theorem ins_gd {d : Nat} {acc : List (ByteArray × VT)} {x : Wd} {t : VT} (hx : Fine x) (h2 : x.kd = 2) (hno : ¬ (findK (mkS x.tx) (acc.map (·.1)) (acc.map (·.2))).isSome = true) (hs : Strict (acc.map (·.1))) (hte : ∀ c ∈ acc.map (·.1), teI c = 0) (h : ∀ a ∈ acc, Gd (d + 1) a.2) (ht : Gd (d + 1) t) :
    Strict ((insP (mkS x.tx) t false acc).map (·.1)) ∧ (∀ c ∈ (insP (mkS x.tx) t false acc).map (·.1), teI c = 0) ∧ (∀ a ∈ insP (mkS x.tx) t false acc, Gd (d + 1) a.2) ∧ szL ((insP (mkS x.tx) t false acc).map (·.2)) = szT t + szL (acc.map (·.2)) := by
  have hne : ∀ a ∈ acc, ¬ a.1.data.toList = (mkS x.tx).data.toList := fun a ha e => by
    rw [find_any] at hno
    exact hno (List.any_eq_true.2 ⟨a, ha, decide_eq_true e⟩)
  obtain ⟨k1, k2⟩ := ins_new (mkS x.tx) t acc hs hne
  refine ⟨k1, fun c hc => ?_, fun a ha => ?_, ?_⟩
  · obtain ⟨a, ha, rfl⟩ := List.mem_map.1 hc
    rcases List.mem_cons.1 (k2.mem_iff.1 ha) with rfl | ha
    · exact fine_te hx h2
    · exact hte _ (List.mem_map_of_mem ha)
  · rcases List.mem_cons.1 (k2.mem_iff.1 ha) with rfl | ha
    · exact ht
    · exact h a ha
  · rw [szL_perm (k2.map (·.2)), List.map_cons, szL]
/-- what is read may stand where it is read, and its nodes are counted -/
theorem jr_good : ∀ f : Nat, (∀ d n ws t m q, (∀ x ∈ ws, Fine x) → jrV f d n ws = .ok t m q → Gd d t ∧ m = n + szT t) ∧
    (∀ d n acc ws t m q, (∀ x ∈ ws, Fine x) → d ≤ 32 → (∀ u ∈ acc, Gd (d + 1) u) → jrL f d n acc ws = .ok t m q → Gd d t ∧ m + szL acc + 1 = n + szT t) ∧
    (∀ d n acc ws t m q, (∀ x ∈ ws, Fine x) → d ≤ 32 → Strict (acc.map (·.1)) → (∀ c ∈ acc.map (·.1), teI c = 0) → (∀ a ∈ acc, Gd (d + 1) a.2) → jrP f d n acc ws = .ok t m q → Gd d t ∧ m + szL (acc.map (·.2)) + 1 = n + szT t)
  | 0 => ⟨fun d n ws t m q _ h => (by rw [jrV] at h; cases h), fun d n acc ws t m q _ _ _ h => (by rw [jrL] at h; cases h), fun d n acc ws t m q _ _ _ _ _ h => (by rw [jrP] at h; cases h)⟩
  | f + 1 => by
    obtain ⟨ihV, ihL, ihP⟩ := jr_good f
    have suf := (jr_suf f).1
    refine ⟨fun d n ws t m q hf h => ?_, fun d n acc ws t m q hf hd ha h => ?_, fun d n acc ws t m q hf hd hs hte ha h => ?_⟩
    · cases ws with
      | nil => rw [jrV] at h; cases h
      | cons x r =>
        have hx := hf x List.mem_cons_self
        have hr : ∀ y ∈ r, Fine y := fun y hy => hf y (List.mem_cons_of_mem _ hy)
        rw [jrV] at h
        split at h
        · cases h
        · split at h
          · cases h
          · rename_i h1
            have hd : d ≤ 32 := by omega
            split at h
            · rename_i h2
              injection h with e1 e2 e3; subst e1 e2 e3
              obtain ⟨g1, g2⟩ := gd_leaf (d := d) (str_node (fine_te hx h2)) (by decide) hd
              exact ⟨g1, by show _ = n + szT (leafT 4 0 (mkS x.tx)); rw [g2]⟩
            · split at h
              · rename_i h3
                injection h with e1 e2 e3; subst e1 e2 e3
                obtain ⟨g1, g2⟩ := num_gd (d := d) (hx.num h3) hd
                exact ⟨g1, by rw [g2]⟩
              · split at h
                · injection h with e1 e2 e3; subst e1 e2 e3
                  obtain ⟨g1, g2⟩ := lit_gd (d := d) x.tx hd
                  exact ⟨g1, by rw [g2]⟩
                · split at h
                  · split at h
                    · injection h with e1 e2 e3; subst e1 e2 e3
                      obtain ⟨g1, g2⟩ := list_gd (L := []) hd (fun t ht => by cases ht)
                      exact ⟨g1, by rw [g2, szL]⟩
                    · obtain ⟨g1, g2⟩ := ihL _ _ _ _ _ _ _ hr hd (fun t ht => by cases ht) h
                      rw [szL] at g2
                      exact ⟨g1, by omega⟩
                  · split at h
                    · injection h with e1 e2 e3; subst e1 e2 e3
                      obtain ⟨g1, g2⟩ := map_gd (P := []) hd (fun i j a b _ hi => by simp at hi) (fun c hc => by simp at hc) (fun t ht => by cases ht)
                      exact ⟨g1, by rw [g2, List.map_nil, szL]⟩
                    · obtain ⟨g1, g2⟩ := ihP _ _ _ _ _ _ _ hr hd (fun i j a b _ hi => by simp at hi) (fun c hc => by simp at hc) (fun t ht => by cases ht) h
                      rw [List.map_nil, szL] at g2
                      exact ⟨g1, by omega⟩
    · rw [jrL] at h
      cases hv : jrV f (d + 1) n ws with
      | bad e a => rw [hv] at h; cases h
      | ok t' m' q' =>
        rw [hv] at h
        simp only at h
        obtain ⟨g1, g2⟩ := ihV _ _ _ _ _ _ hf hv
        have hall : ∀ u ∈ acc ++ [t'], Gd (d + 1) u := fun u hu => by
          rcases List.mem_append.1 hu with hu | hu
          · exact ha u hu
          · rw [List.mem_singleton.1 hu]; exact g1
        have hsz : szL (acc ++ [t']) = szL acc + szT t' := by rw [szL_app, szL, szL, Nat.add_zero]
        split at h
        · obtain ⟨k1, k2⟩ := ihL _ _ _ _ _ _ _ (tail_mem (suf _ _ _ _ _ _ hv) hf) hd hall h
          exact ⟨k1, by omega⟩
        · split at h
          · injection h with e1 e2 e3; subst e1 e2 e3
            obtain ⟨k1, k2⟩ := list_gd hd hall
            exact ⟨k1, by omega⟩
          · cases h
    · cases ws with
      | nil => rw [jrP] at h; cases h
      | cons x r =>
        have hx := hf x List.mem_cons_self
        have hr : ∀ y ∈ r.tail, Fine y := fun y hy => hf y (List.mem_cons_of_mem _ (List.mem_of_mem_tail hy))
        rw [jrP] at h
        split at h
        · cases h
        · rename_i h2
          split at h
          · cases h
          · rename_i hno
            split at h
            · cases h
            · cases hv : jrV f (d + 1) n r.tail with
              | bad e a => rw [hv] at h; cases h
              | ok t' m' q' =>
                rw [hv] at h
                simp only at h
                obtain ⟨g1, g2⟩ := ihV _ _ _ _ _ _ hr hv
                obtain ⟨i1, i2, i3, i4⟩ := ins_gd hx (Classical.not_not.1 h2) hno hs hte ha g1
                split at h
                · obtain ⟨k1, k2⟩ := ihP _ _ _ _ _ _ _ (tail_mem (suf _ _ _ _ _ _ hv) hr) hd i1 i2 i3 h
                  exact ⟨k1, by omega⟩
                · split at h
                  · injection h with e1 e2 e3; subst e1 e2 e3
                    obtain ⟨k1, k2⟩ := map_gd hd i1 i2 i3
                    exact ⟨k1, by omega⟩
                  · cases h
/-- what a text says may be, and has no stamp -/
theorem jr_may {T : List UInt8} {t : VT} {m : Nat} {q : List Wd} (h : jrA T = .ok t m q) : mayB 0 1 t = true ∧ smB t = false := by
  unfold jrA at h
  split at h
  · cases h
  · rename_i h0
    have h0' : (cutA T).2.1 = 0 := Classical.not_not.1 h0
    cases hv : jrV (2 * (cutA T).1.length + 2) 1 0 (cutA T).1 with
    | bad e a => rw [hv] at h; cases h
    | ok t' m' q' =>
      rw [hv] at h
      simp only at h
      obtain ⟨⟨g1, g2, g3⟩, g4⟩ := (jr_good _).1 _ _ _ _ _ _ (cut_fine h0') hv
      obtain ⟨-, -, -, g5⟩ := (jr_ends _).1 _ _ _ _ _ _ (cut_good h0').1 hv
      have key : mayB 0 1 t' = true ∧ smB t' = false := by
        refine ⟨?_, g2⟩
        unfold mayB
        rw [g1, decide_eq_true ⟨by omega, by omega⟩]; rfl
      cases q' with
      | nil => cases h
      | cons y r =>
        simp only at h
        split at h
        · injection h with e1 e2 e3; subst e1; exact key
        · cases h
end Go.Proofs.YtkhjahpkbjafaaaGreatDoor
