/- Plain mathematics: words that are read as a value at some depth, whatever stands behind them. -/
import Derived.Test.YtkhjahpkbjafaaaGreatDoorPRefVal7
import Derived.Test.YtkhjahpkbjafaaaGreatDoorPMathSpell
namespace Go.Proofs.YtkhjahpkbjafaaaGreatDoor
open Go.RowKit

theorem beg_isM {x : Wd} {r : List Wd} {c : UInt8} (h : begB x = true) (h1 : c ≠ 123) (h2 : c ≠ 91) : isM c (x :: r) = false := by
  refine isM_no (fun ⟨h3, h4⟩ => beg_yes h (Or.inr ⟨h3, ?_, ?_⟩))
  · rw [h4]; intro e; injection e with e; exact h1 e
  · rw [h4]; intro e; injection e with e; exact h2 e
/-- these words, so deep, are this tree of so many nodes, whatever stands behind them -/
def Rds (d : Nat) (ws : List Wd) (t : VT) (k : Nat) : Prop :=
  (∃ x r, ws = x :: r ∧ begB x = true) ∧ ∀ (n f : Nat) (r : List Wd), n + k ≤ 4096 → 2 * ws.length + 1 ≤ f → jrV f d n (ws ++ r) = .ok t (n + k) r
theorem Rds.not {d : Nat} {ws : List Wd} {t : VT} {k : Nat} (h : Rds d ws t k) {c : UInt8} (h1 : c ≠ 123) (h2 : c ≠ 91) (r : List Wd) : isM c (ws ++ r) = false := by
  obtain ⟨⟨x, q, rfl, hx⟩, -⟩ := h
  exact beg_isM hx h1 h2
theorem rds_one {x : Wd} {d : Nat} (hx : begB x = true) (h1 : ¬ x.kd = 1) (h4 : x.kd ≤ 4) (hd : d ≤ 32) : Rds d [x] (sgT x) 1 := by
  refine ⟨⟨x, [], rfl, hx⟩, fun n f r hn hf => ?_⟩
  cases f with
  | zero => simp at hf
  | succ f => exact jrV_sg hx (by omega) h1 h4
theorem shp_one {x : Wd} {c : UInt8} (h : shp x = (1, [c])) : x.kd = 1 ∧ x.tx = [c] := by
  unfold shp at h; injection h with h1 h2; exact ⟨h1, h2⟩
theorem beg_sg {x : Wd} {c : UInt8} (h : shp x = (1, [c])) (hc : c = 123 ∨ c = 91) : begB x = true := by
  obtain ⟨h1, h2⟩ := shp_one h
  unfold begB
  rw [h1, h2]
  rcases hc with rfl | rfl <;> decide
/-- a list of one -/
theorem rds_list1 {d : Nat} {ws : List Wd} {t : VT} {k : Nat} {o c : Wd} (hd : d ≤ 32) (h : Rds (d + 1) ws t k) (ho : shp o = (1, [91])) (hc : shp c = (1, [93])) : Rds d (o :: (ws ++ [c])) (listT [t]) (k + 1) := by
  have hb := beg_sg ho (Or.inr rfl)
  refine ⟨⟨o, _, rfl, hb⟩, fun n f r hn hf => ?_⟩
  simp only [List.length_cons, List.length_append, List.length_nil] at hf
  obtain ⟨g, rfl⟩ : ∃ g, f = g + 1 + 1 := ⟨f - 2, by omega⟩
  have e : o :: (ws ++ [c]) ++ r = o :: (ws ++ (c :: r)) := by simp
  rw [e, jrV_list hb (by omega) (shp_one ho).1 (shp_one ho).2, if_neg (by rw [h.not (by decide) (by decide)]; decide), jrL, h.2 (n + 1) g (c :: r) (by omega) (by omega)]
  simp only
  rw [if_neg (by rw [isM_sh_no hc (by decide)]; decide), if_pos (isM_sh hc), List.tail_cons, List.nil_append, show n + 1 + k = n + (k + 1) from by omega]
/-- words of pairs, with commas between them -/
inductive RdM (d : Nat) : List Wd → List (ByteArray × VT) → Nat → Prop
  | one {xk xc : Wd} {wv : List Wd} {t : VT} {k : Nat} (h1 : xk.kd = 2) (h2 : shp xc = (1, [58])) (h3 : Rds (d + 1) wv t k) : RdM d (xk :: xc :: wv) [(mkS xk.tx, t)] k
  | more {xk xc xm : Wd} {wv ws : List Wd} {t : VT} {k m : Nat} {P : List (ByteArray × VT)} (h1 : xk.kd = 2) (h2 : shp xc = (1, [58])) (h3 : Rds (d + 1) wv t k) (h4 : shp xm = (1, [44])) (r : RdM d ws P m) : RdM d (xk :: xc :: (wv ++ xm :: ws)) ((mkS xk.tx, t) :: P) (k + m)
/-- pairs put in, one behind the other -/
def insA (acc P : List (ByteArray × VT)) : List (ByteArray × VT) := P.foldl (fun a p => insP p.1 p.2 false a) acc
theorem ins_fold : ∀ (P acc : List (ByteArray × VT)), Strict (acc.map (·.1)) → (acc.map (·.1) ++ P.map (·.1)).Nodup → Strict ((insA acc P).map (·.1)) ∧ (insA acc P).Perm (acc ++ P)
  | [], acc, hs, _ => by
    refine ⟨hs, ?_⟩
    rw [List.append_nil]; exact List.Perm.refl _
  | (c, x) :: P, acc, hs, hn => by
    have hnot : ∀ a ∈ acc, ¬ a.1.data.toList = c.data.toList := by
      intro a ha he
      have h1 := ba_ext _ _ he
      rw [List.nodup_append] at hn
      exact hn.2.2 a.1 (List.mem_map.2 ⟨a, ha, rfl⟩) c (by simp) h1
    obtain ⟨h1, h2⟩ := ins_new c x acc hs hnot
    have hn' : ((insP c x false acc).map (·.1) ++ P.map (·.1)).Nodup := by
      refine (List.Perm.nodup_iff ?_).2 hn
      refine (((h2.map (·.1)).append_right _).trans ?_)
      rw [List.map_cons, List.map_cons]
      exact List.perm_middle.symm
    obtain ⟨h3, h4⟩ := ins_fold P (insP c x false acc) h1 hn'
    exact ⟨h3, h4.trans ((h2.append_right P).trans List.perm_middle.symm)⟩
theorem nodup_not {acc : List (ByteArray × VT)} {c : ByteArray} {x : VT} {P : List (ByteArray × VT)} (hn : (acc.map (·.1) ++ ((c, x) :: P).map (·.1)).Nodup) : (findK c (acc.map (·.1)) (acc.map (·.2))).isSome = false := by
  cases h : (findK c (acc.map (·.1)) (acc.map (·.2))).isSome with
  | false => rfl
  | true =>
    rw [List.nodup_append] at hn
    exact absurd rfl (hn.2.2 c ((mem_find c acc).1 h) c (by simp))
theorem nodup_step {acc : List (ByteArray × VT)} {c : ByteArray} {x : VT} {P : List (ByteArray × VT)} (hs : Strict (acc.map (·.1))) (hn : (acc.map (·.1) ++ ((c, x) :: P).map (·.1)).Nodup) : Strict ((insP c x false acc).map (·.1)) ∧ ((insP c x false acc).map (·.1) ++ P.map (·.1)).Nodup := by
  have hnot : ∀ a ∈ acc, ¬ a.1.data.toList = c.data.toList := by
    intro a ha he
    have h1 := ba_ext _ _ he
    rw [List.nodup_append] at hn
    exact hn.2.2 a.1 (List.mem_map.2 ⟨a, ha, rfl⟩) c (by simp) h1
  obtain ⟨h1, h2⟩ := ins_new c x acc hs hnot
  refine ⟨h1, (List.Perm.nodup_iff ?_).2 hn⟩
  refine (((h2.map (·.1)).append_right _).trans ?_)
  rw [List.map_cons, List.map_cons]
  exact List.perm_middle.symm
theorem jrP_one {f d n : Nat} {acc : List (ByteArray × VT)} {xk xc : Wd} {wv r : List Wd} {t : VT} {k : Nat} (h1 : xk.kd = 2) (h2 : shp xc = (1, [58])) (h3 : Rds (d + 1) wv t k) (hf : (findK (mkS xk.tx) (acc.map (·.1)) (acc.map (·.2))).isSome = false) (hn : n + k ≤ 4096) (hg : 2 * wv.length + 1 ≤ f) :
    jrP (f + 1) d n acc (xk :: xc :: (wv ++ r)) = if isM 44 r = true then jrP f d (n + k) (insP (mkS xk.tx) t false acc) r.tail else if isM 125 r = true then .ok (mapT (insP (mkS xk.tx) t false acc)) (n + k) r.tail else .bad 4 (atW r) := by
  rw [jrP, if_neg (by rw [h1]; simp), if_neg (by rw [hf]; decide), if_neg (by rw [isM_sh h2]; simp), List.tail_cons, h3.2 n f r hn hg]
/-- pairs are read, and the mark that shuts them -/
theorem rdm_ok {d : Nat} {ws : List Wd} {P : List (ByteArray × VT)} {m : Nat} (h : RdM d ws P m) : ∀ (acc : List (ByteArray × VT)) (n f : Nat) (c : Wd) (r : List Wd), Strict (acc.map (·.1)) → (acc.map (·.1) ++ P.map (·.1)).Nodup → n + m ≤ 4096 → 2 * ws.length + 2 ≤ f → shp c = (1, [125]) → jrP f d n acc (ws ++ c :: r) = .ok (mapT (insA acc P)) (n + m) r := by
  induction h with
  | one h1 h2 h3 =>
    intro acc n f c r hs hn hm hf hc
    obtain ⟨g, rfl⟩ : ∃ g, f = g + 1 := ⟨f - 1, by omega⟩
    simp only [List.length_cons] at hf
    simp only [List.cons_append]
    rw [jrP_one h1 h2 h3 (nodup_not hn) hm (by omega), if_neg (by rw [isM_sh_no hc (by decide)]; decide), if_pos (isM_sh hc)]
    rfl
  | more h1 h2 h3 h4 r ih =>
    rename_i xk xc xm wv ws t k m P
    intro acc n f c q hs hn hm hf hc
    obtain ⟨g, rfl⟩ : ∃ g, f = g + 1 := ⟨f - 1, by omega⟩
    simp only [List.length_cons, List.length_append] at hf
    simp only [List.cons_append, List.append_assoc]
    obtain ⟨s1, s2⟩ := nodup_step hs hn
    rw [jrP_one h1 h2 h3 (nodup_not hn) (by omega) (by omega), if_pos (isM_sh h4), List.tail_cons, ih _ (n + k) g c q s1 s2 (by omega) (by omega) hc, show n + k + m = n + (k + m) from by omega]
    rfl
/-- a key that was there already -/
theorem rdm_twice {d : Nat} {ws : List Wd} {P : List (ByteArray × VT)} {m : Nat} (h : RdM d ws P m) : ∀ (acc : List (ByteArray × VT)) (n f : Nat) (xm xk : Wd) (r : List Wd), Strict (acc.map (·.1)) → (acc.map (·.1) ++ P.map (·.1)).Nodup → n + m ≤ 4096 → 2 * ws.length + 4 ≤ f → shp xm = (1, [44]) → xk.kd = 2 → mkS xk.tx ∈ acc.map (·.1) ++ P.map (·.1) → jrP f d n acc (ws ++ xm :: xk :: r) = .bad 5 xk.at_ := by
  induction h with
  | one h1 h2 h3 =>
    intro acc n f xm xk r hs hn hm hf hc hk hin
    obtain ⟨g, rfl⟩ : ∃ g, f = g + 1 + 1 := ⟨f - 2, by omega⟩
    simp only [List.length_cons] at hf
    simp only [List.cons_append]
    obtain ⟨s1, s2⟩ := nodup_step hs hn
    have hf2 := (ins_fold _ acc hs hn).2
    rw [jrP_one h1 h2 h3 (nodup_not hn) hm (by omega), if_pos (isM_sh hc), List.tail_cons, jrP, if_neg (by rw [hk]; simp), if_pos]
    rw [mem_find]
    have : mkS xk.tx ∈ (insA acc [_]).map (·.1) := (hf2.map (·.1)).symm.subset (by rw [List.map_append]; exact hin)
    exact this
  | more h1 h2 h3 h4 r ih =>
    rename_i xk' xc xm' wv ws t k m P
    intro acc n f xm xk q hs hn hm hf hc hk hin
    obtain ⟨g, rfl⟩ : ∃ g, f = g + 1 := ⟨f - 1, by omega⟩
    simp only [List.length_cons, List.length_append] at hf
    simp only [List.cons_append, List.append_assoc]
    obtain ⟨s1, s2⟩ := nodup_step hs hn
    rw [jrP_one h1 h2 h3 (nodup_not hn) (by omega) (by omega), if_pos (isM_sh h4), List.tail_cons, ih _ (n + k) g xm xk q s1 s2 (by omega) (by omega) hc hk]
    have hp := (ins_fold _ acc hs (by
      have : (acc.map (·.1) ++ [(mkS xk'.tx, t)].map (·.1)).Nodup := by
        refine List.Nodup.sublist ?_ hn
        refine List.Sublist.append_left ?_ _
        simp
      exact this)).2
    have hp1 := hp.map (·.1)
    rw [List.map_append] at hp1
    rcases List.mem_append.1 hin with h | h
    · exact List.mem_append_left _ (hp1.symm.subset (List.mem_append_left _ h))
    · rw [List.map_cons] at h
      rcases List.mem_cons.1 h with h | h
      · exact List.mem_append_left _ (hp1.symm.subset (List.mem_append_right _ (by rw [h]; simp)))
      · exact List.mem_append_right _ h
theorem RdM.head {d : Nat} {ws : List Wd} {P : List (ByteArray × VT)} {m : Nat} (h : RdM d ws P m) : ∃ x r, ws = x :: r ∧ x.kd = 2 := by
  cases h with
  | one h1 _ _ => exact ⟨_, _, rfl, h1⟩
  | more h1 _ _ _ _ => exact ⟨_, _, rfl, h1⟩
theorem strict_nil : Strict ([] : List ByteArray) := fun i j a b _ ha _ => by simp at ha
/-- a map of pairs -/
theorem rds_map {d : Nat} {ws : List Wd} {P : List (ByteArray × VT)} {m : Nat} {o c : Wd} (hd : d ≤ 32) (h : RdM d ws P m) (hn : (P.map (·.1)).Nodup) (ho : shp o = (1, [123])) (hc : shp c = (1, [125])) : Rds d (o :: (ws ++ [c])) (mapT (insA [] P)) (m + 1) := by
  have hb := beg_sg ho (Or.inl rfl)
  refine ⟨⟨o, _, rfl, hb⟩, fun n f r hm hf => ?_⟩
  simp only [List.length_cons, List.length_append, List.length_nil] at hf
  obtain ⟨g, rfl⟩ : ∃ g, f = g + 1 := ⟨f - 1, by omega⟩
  have e : o :: (ws ++ [c]) ++ r = o :: (ws ++ (c :: r)) := by simp
  obtain ⟨x, q, hq, hx⟩ := h.head
  have hne : isM 125 (ws ++ c :: r) = false := by rw [hq]; exact isM_no (fun ⟨h3, _⟩ => by omega)
  rw [e, jrV_map hb (by omega) (shp_one ho).1 (by rw [(shp_one ho).2]; decide), if_neg (by rw [hne]; decide), rdm_ok h [] (n + 1) g c r strict_nil (by simpa using hn) (by omega) (by omega) hc, show n + 1 + m = n + (m + 1) from by omega]
/-- a whole text of one value -/
theorem jrA_rds {T : List UInt8} {ws : List Wd} {t : VT} {k : Nat} {e : Wd} (hc : cutA T = (ws ++ [e], 0, 0)) (h : Rds 1 ws t k) (he : e.kd = 0) (hk : k ≤ 4096) : jrA T = .ok t k [e] := by
  unfold jrA
  rw [hc]
  simp only
  rw [if_neg (by simp), h.2 0 _ [e] (by omega) (by simp; omega), Nat.zero_add]
  simp only
  rw [if_pos he]
/-- a value that can't be read spoils the text -/
theorem jrA_bad {T : List UInt8} {ws : List Wd} {er a : Nat} (hc : cutA T = (ws, 0, 0)) (h : jrV (2 * ws.length + 2) 1 0 ws = .bad er a) : jrA T = .bad er a := by
  unfold jrA
  rw [hc]
  simp only
  rw [if_neg (by simp), h]
/-- words one deep too deep: whatever begins here -/
def Bds (d : Nat) (ws : List Wd) : Prop := (∃ x r, ws = x :: r ∧ begB x = true) ∧ ∀ (n f : Nat) (r : List Wd), n + ws.length < 4096 → 2 * ws.length + 1 ≤ f → ∃ a, jrV f d n (ws ++ r) = .bad 2 a
theorem bds_33 {x : Wd} {q : List Wd} (h : begB x = true) : Bds 33 (x :: q) := by
  refine ⟨⟨x, q, rfl, h⟩, fun n f r hn hf => ?_⟩
  cases f with
  | zero => simp at hf
  | succ f => exact ⟨_, jrV_lim h (by omega)⟩
theorem bds_list {d : Nat} {ws : List Wd} {o : Wd} (hd : d ≤ 32) (h : Bds (d + 1) ws) (ho : shp o = (1, [91])) : Bds d (o :: ws) := by
  have hb := beg_sg ho (Or.inr rfl)
  obtain ⟨⟨x, q, hq, hx⟩, hr⟩ := h
  refine ⟨⟨o, _, rfl, hb⟩, fun n f r hn hf => ?_⟩
  simp only [List.length_cons] at hf hn
  obtain ⟨g, rfl⟩ : ∃ g, f = g + 1 + 1 := ⟨f - 2, by omega⟩
  obtain ⟨a, ha⟩ := hr (n + 1) g r (by omega) (by omega)
  have hne : isM 93 (ws ++ r) = false := by rw [hq]; exact beg_isM hx (by decide) (by decide)
  refine ⟨a, ?_⟩
  rw [List.cons_append, jrV_list hb (by omega) (shp_one ho).1 (shp_one ho).2, if_neg (by rw [hne]; decide), jrL, ha]
theorem bds_map {d : Nat} {ws : List Wd} {o xk xc : Wd} (hd : d ≤ 32) (h : Bds (d + 1) ws) (ho : shp o = (1, [123])) (hk : xk.kd = 2) (hc : shp xc = (1, [58])) : Bds d (o :: xk :: xc :: ws) := by
  have hb := beg_sg ho (Or.inl rfl)
  obtain ⟨⟨x, q, hq, hx⟩, hr⟩ := h
  refine ⟨⟨o, _, rfl, hb⟩, fun n f r hn hf => ?_⟩
  simp only [List.length_cons] at hf hn
  obtain ⟨g, rfl⟩ : ∃ g, f = g + 1 + 1 := ⟨f - 2, by omega⟩
  obtain ⟨a, ha⟩ := hr (n + 1) g r (by omega) (by omega)
  have hne : isM 125 (xk :: xc :: (ws ++ r)) = false := isM_no (fun ⟨h3, _⟩ => by omega)
  refine ⟨a, ?_⟩
  simp only [List.cons_append]
  rw [jrV_map hb (by omega) (shp_one ho).1 (by rw [(shp_one ho).2]; decide), if_neg (by rw [hne]; decide), jrP, if_neg (by rw [hk]; simp), if_neg (by simp [findK]), if_neg (by rw [isM_sh hc]; simp), List.tail_cons, ha]
/-- a row of noughts in a list -/
inductive RdZ : List Wd → Nat → Prop
  | one {x : Wd} (h : shp x = (3, [48])) : RdZ [x] 1
  | more {x xm : Wd} {ws : List Wd} {m : Nat} (h : shp x = (3, [48])) (h4 : shp xm = (1, [44])) (r : RdZ ws m) : RdZ (x :: xm :: ws) (m + 1)
theorem jrV_nought {f d n : Nat} {x : Wd} {r : List Wd} (h : shp x = (3, [48])) (hd : d ≤ 32) : jrV (f + 1) d n (x :: r) = if 4096 < n + 1 then .bad 2 x.at_ else .ok (leafT 2 0 ⟨#[]⟩) (n + 1) r := by
  unfold shp at h
  injection h with h1 h2
  have hb := beg_kd (x := x) (by omega) (by omega)
  by_cases hl : 4096 < n + 1
  · rw [if_pos hl, jrV_lim hb (Or.inr hl)]
  · rw [if_neg hl, jrV_sg hb (by omega) (by omega) (by omega)]
    unfold sgT
    rw [if_neg (by omega), if_pos h1, h2]
    rfl
theorem rdz_ok {ws : List Wd} {m : Nat} (h : RdZ ws m) : ∀ (acc : List VT) (d n f : Nat) (c : Wd) (r : List Wd), d < 32 → 2 * ws.length + 2 ≤ f → shp c = (1, [93]) → n + m ≤ 4096 → jrL f d n acc (ws ++ c :: r) = .ok (listT (acc ++ List.replicate m (leafT 2 0 ⟨#[]⟩))) (n + m) r := by
  induction h with
  | one h =>
    intro acc d n f c r hd hf hc hm
    obtain ⟨g, rfl⟩ : ∃ g, f = g + 1 + 1 := ⟨f - 2, by omega⟩
    rw [jrL, List.singleton_append, jrV_nought h (by omega), if_neg (by omega)]
    simp only
    rw [if_neg (by rw [isM_sh_no hc (by decide)]; decide), if_pos (isM_sh hc)]
    rfl
  | more h h4 r ih =>
    intro acc d n f c q hd hf hc hm
    simp only [List.length_cons] at hf
    obtain ⟨g, rfl⟩ : ∃ g, f = g + 1 + 1 := ⟨f - 2, by omega⟩
    simp only [List.cons_append]
    rw [jrL, jrV_nought h (by omega), if_neg (by omega)]
    simp only
    rw [if_pos (isM_sh h4), List.tail_cons, ih _ d (n + 1) (g + 1) c q hd (by omega) hc (by omega), List.append_assoc, List.singleton_append, ← List.replicate_succ, show ∀ m : Nat, n + 1 + m = n + (m + 1) from fun m => by omega]
theorem rdz_bad {ws : List Wd} {m : Nat} (h : RdZ ws m) : ∀ (acc : List VT) (d n f : Nat) (r : List Wd), d < 32 → 2 * ws.length + 2 ≤ f → n ≤ 4096 → 4096 < n + m → ∃ a, jrL f d n acc (ws ++ r) = .bad 2 a := by
  induction h with
  | one h =>
    intro acc d n f r hd hf hn hm
    obtain ⟨g, rfl⟩ : ∃ g, f = g + 1 + 1 := ⟨f - 2, by omega⟩
    rw [jrL, List.singleton_append, jrV_nought h (by omega), if_pos (by omega)]
    exact ⟨_, rfl⟩
  | more h h4 r ih =>
    intro acc d n f q hd hf hn hm
    simp only [List.length_cons] at hf
    obtain ⟨g, rfl⟩ : ∃ g, f = g + 1 + 1 := ⟨f - 2, by omega⟩
    simp only [List.cons_append]
    rw [jrL, jrV_nought h (by omega)]
    by_cases hl : 4096 < n + 1
    · rw [if_pos hl]; exact ⟨_, rfl⟩
    · rw [if_neg hl]
      simp only
      rw [if_pos (isM_sh h4), List.tail_cons]
      exact ih _ d (n + 1) (g + 1) q hd (by omega) (by omega) (by omega)
theorem RdZ.head {ws : List Wd} {m : Nat} (h : RdZ ws m) : ∃ x r, ws = x :: r ∧ x.kd = 3 ∧ 1 ≤ m := by
  cases h with
  | one h => unfold shp at h; injection h with h1; exact ⟨_, _, rfl, h1, by omega⟩
  | more h _ _ => unfold shp at h; injection h with h1; exact ⟨_, _, rfl, h1, by omega⟩
end Go.Proofs.YtkhjahpkbjafaaaGreatDoor
