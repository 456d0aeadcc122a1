/- Plain mathematics: the words that spell a value are read as that value. -/
import Derived.Test.YtkhjahpkbjafaaaGreatDoorUJrOne
import Derived.Test.YtkhjahpkbjafaaaGreatDoorUVPlain
namespace Go.Proofs.YtkhjahpkbjafaaaGreatDoor
open Go.RowKit

/-- a word, wherever it stands -/
def shp (x : Wd) : Nat × List UInt8 := (x.kd, x.tx)
/-- how a value without parts is spelt -/
def shS (k n : Int) (s : ByteArray) : Nat × List UInt8 :=
  if k = 1 then (4, if n = 1 then [116, 114, 117, 101] else [102, 97, 108, 115, 101]) else if k = 2 then (3, txt n) else if k = 3 then (3, s.data.toList) else if k = 4 ∨ k = 7 then (2, s.data.toList) else (4, [110, 117, 108, 108])
mutual
/-- how a value is spelt; a list's parts; those behind the first; a map's pairs likewise -/
def shV : VT → List (Nat × List UInt8)
  | .mk k n s L K V => if k = 5 then (1, [91]) :: (shL L ++ [(1, [93])]) else if k = 6 then (1, [123]) :: (shM V K ++ [(1, [125])]) else [shS k n s]
def shL : List VT → List (Nat × List UInt8)
  | [] => []
  | t :: r => shV t ++ shLc r
def shLc : List VT → List (Nat × List UInt8)
  | [] => []
  | t :: r => (1, [44]) :: (shV t ++ shLc r)
def shM : List VT → List ByteArray → List (Nat × List UInt8)
  | [], _ => []
  | t :: r, K => (2, (K.headD ⟨#[]⟩).data.toList) :: (1, [58]) :: (shV t ++ shMc r K.tail)
def shMc : List VT → List ByteArray → List (Nat × List UInt8)
  | [], _ => []
  | t :: r, K => (1, [44]) :: (2, (K.headD ⟨#[]⟩).data.toList) :: (1, [58]) :: (shV t ++ shMc r K.tail)
end
mutual
/-- what is read back: a stamp is a string now -/
def bkT : VT → VT
  | .mk k n s L K V => .mk (if k = 7 then 4 else k) n s (bkL L) K (bkL V)
def bkL : List VT → List VT
  | [] => []
  | t :: r => bkT t :: bkL r
end
mutual
/-- numbers that are of 64 bits, as many keys as values -/
def wfT : VT → Prop
  | .mk _ n _ L K V => (-9223372036854775808 ≤ n ∧ n < 9223372036854775808) ∧ K.length = V.length ∧ wfL L ∧ wfL V
def wfL : List VT → Prop
  | [] => True
  | t :: r => wfT t ∧ wfL r
end
theorem nil_toList {s : ByteArray} (h : s.toList.isEmpty = true) : s = ⟨#[]⟩ := by
  rw [ByteArray.toList_eq] at h
  obtain ⟨d⟩ := s
  simp only [List.isEmpty_iff] at h
  congr 1
  exact Array.toList_eq_nil_iff.1 h
theorem len_zero {α : Type} {L : List α} (h : ((L.length : Int) == 0) = true) : L = [] := List.eq_nil_of_length_eq_zero (by simpa using h)
theorem beg_kd {x : Wd} (h0 : ¬ x.kd = 0) (h1 : ¬ x.kd = 1) : begB x = true := by
  unfold begB
  exact decide_eq_true (fun h => h.elim h0 (fun h => h1 h.1))
/-- a value without parts -/
theorem sp_one {k n : Int} {s : ByteArray} {L : List VT} {K : List ByteArray} {V : List VT} (hn : nodeB (.mk k n s L K V) = true) (hw : wfT (.mk k n s L K V)) (h5 : ¬ k = 5) (h6 : ¬ k = 6) (x : Wd) (hx : shp x = shS k n s) :
    bkT (.mk k n s L K V) = sgT x ∧ szT (.mk k n s L K V) = 1 ∧ begB x = true ∧ ¬ x.kd = 1 ∧ x.kd ≤ 4 := by
  unfold nodeB nodeC at hn
  simp only [VT.kd, VT.nm, VT.st, VT.ls, VT.ks, VT.vs] at hn
  rw [wfT] at hw
  obtain ⟨hw1, hw2, -, -⟩ := hw
  unfold shS shp at hx
  by_cases h0 : k = 0
  · subst h0
    simp only [if_true, Bool.and_eq_true] at hn
    obtain ⟨⟨⟨a, b⟩, c⟩, d⟩ := hn
    obtain rfl := nil_toList b
    obtain rfl := len_zero c
    obtain rfl := len_zero d
    obtain rfl : K = [] := List.eq_nil_of_length_eq_zero hw2
    obtain rfl : n = 0 := by simpa using a
    simp at hx
    obtain ⟨e1, e2⟩ := hx
    refine ⟨by unfold sgT; rw [e1, e2]; rfl, by simp [szT, szL], beg_kd (by omega) (by omega), by omega, by omega⟩
  by_cases h1 : k = 1
  · subst h1
    simp at hn
    obtain ⟨⟨⟨a, b⟩, c⟩, d⟩ := hn
    have hb := nil_toList (s := s) (by simpa using b)
    subst hb
    subst c
    subst d
    obtain rfl : K = [] := List.eq_nil_of_length_eq_zero hw2
    rw [if_pos rfl] at hx
    injection hx with e1 e2
    rcases a with rfl | rfl
    · rw [if_neg (by decide)] at e2
      refine ⟨by unfold sgT; rw [e1, e2]; rfl, by simp [szT, szL], beg_kd (by omega) (by omega), by omega, by omega⟩
    · rw [if_pos rfl] at e2
      refine ⟨by unfold sgT; rw [e1, e2]; rfl, by simp [szT, szL], beg_kd (by omega) (by omega), by omega, by omega⟩
  by_cases h2 : k = 2
  · subst h2
    simp at hn
    obtain ⟨⟨b, c⟩, d⟩ := hn
    have hb := nil_toList (s := s) (by simpa using b)
    subst hb
    subst c
    subst d
    obtain rfl : K = [] := List.eq_nil_of_length_eq_zero hw2
    rw [if_neg (by decide), if_pos rfl] at hx
    injection hx with e1 e2
    obtain ⟨i1, i2, -⟩ := ints_int n hw1
    refine ⟨?_, by simp [szT, szL], beg_kd (by omega) (by omega), by omega, by omega⟩
    unfold sgT numT
    rw [if_neg (by omega), if_pos e1, e2, if_pos i1, i2]; rfl
  by_cases h3 : k = 3
  · subst h3
    simp at hn
    obtain ⟨⟨⟨a, b1, b2⟩, c⟩, d⟩ := hn
    subst a
    subst c
    subst d
    obtain rfl : K = [] := List.eq_nil_of_length_eq_zero hw2
    rw [if_neg (by decide), if_neg (by decide), if_pos rfl] at hx
    injection hx with e1 e2
    refine ⟨?_, by simp [szT, szL], beg_kd (by omega) (by omega), by omega, by omega⟩
    unfold sgT numT
    rw [if_neg (by omega), if_pos e1, e2, if_neg (by rw [b2]; decide), ← mkS_of s _ rfl]; rfl
  by_cases h4 : k = 4
  · subst h4
    simp at hn
    obtain ⟨⟨⟨a, b⟩, c⟩, d⟩ := hn
    subst a
    subst c
    subst d
    obtain rfl : K = [] := List.eq_nil_of_length_eq_zero hw2
    rw [if_neg (by decide), if_neg (by decide), if_neg (by decide), if_pos (Or.inl rfl)] at hx
    injection hx with e1 e2
    refine ⟨?_, by simp [szT, szL], beg_kd (by omega) (by omega), by omega, by omega⟩
    unfold sgT
    rw [if_pos e1, e2, ← mkS_of s _ rfl]; rfl
  by_cases h7 : k = 7
  · subst h7
    simp at hn
    obtain ⟨⟨⟨a, b⟩, c⟩, d⟩ := hn
    subst a
    subst c
    subst d
    obtain rfl : K = [] := List.eq_nil_of_length_eq_zero hw2
    rw [if_neg (by decide), if_neg (by decide), if_neg (by decide), if_pos (Or.inr rfl)] at hx
    injection hx with e1 e2
    refine ⟨?_, by simp [szT, szL], beg_kd (by omega) (by omega), by omega, by omega⟩
    unfold sgT
    rw [if_pos e1, e2, ← mkS_of s _ rfl]; rfl
  · simp [h0, h1, h2, h3, h4, h7, h5, h6] at hn
theorem map_split {A B : List (Nat × List UInt8)} {ws : List Wd} (h : ws.map shp = A ++ B) : ∃ a b, ws = a ++ b ∧ a.map shp = A ∧ b.map shp = B := by
  obtain ⟨a, b, h1, h2, h3⟩ := List.map_eq_append_iff.1 h
  exact ⟨a, b, h1, h2, h3⟩
theorem map_cons' {p : Nat × List UInt8} {B : List (Nat × List UInt8)} {ws : List Wd} (h : ws.map shp = p :: B) : ∃ x b, ws = x :: b ∧ shp x = p ∧ b.map shp = B := by
  cases ws with
  | nil => simp at h
  | cons x b => simp only [List.map_cons, List.cons.injEq] at h; exact ⟨x, b, rfl, h.1, h.2⟩
theorem isM_sh {c : UInt8} {x : Wd} {r : List Wd} (h : shp x = (1, [c])) : isM c (x :: r) = true := by
  unfold shp at h
  injection h with h1 h2
  exact isM_yes ⟨h1, h2⟩
theorem isM_sh_no {c : UInt8} {x : Wd} {r : List Wd} {p : Nat × List UInt8} (h : shp x = p) (hp : p ≠ (1, [c])) : isM c (x :: r) = false := by
  refine isM_no (fun ⟨h1, h2⟩ => hp ?_)
  rw [← h, shp, h1, h2]
theorem shS_not (k n : Int) (s : ByteArray) (c : UInt8) : shS k n s ≠ (1, [c]) := by
  unfold shS
  (repeat' split) <;> simp
/-- a value is not spelt with a shutting mark first -/
theorem shV_head (T : VT) : ∃ p r, shV T = p :: r ∧ p ≠ (1, [93]) ∧ p ≠ (1, [125]) ∧ p ≠ (1, [44]) := by
  cases T with
  | mk k n s L K V =>
    rw [shV]
    split
    · exact ⟨_, _, rfl, by decide, by decide, by decide⟩
    · split
      · exact ⟨_, _, rfl, by decide, by decide, by decide⟩
      · exact ⟨_, _, rfl, shS_not _ _ _ _, shS_not _ _ _ _, shS_not _ _ _ _⟩
/-- what reading the words of a value comes to -/
def Sp (N : Nat) : Prop := ∀ (v : VT), szT v ≤ N → plainT v = true → wfT v → ∀ (ws r : List Wd) (d n f : Nat), ws.map shp = shV v → d + hgT v ≤ 33 → n + szT v ≤ 4096 → 2 * ws.length + 1 ≤ f → jrV f d n (ws ++ r) = .ok (bkT v) (n + szT v) r
theorem hgL_cons (t : VT) (L : List VT) : hgL (t :: L) = max (hgT t) (hgL L) := by rw [hgL]
theorem sp_list (N : Nat) (ih : Sp N) : ∀ (L : List VT) (t : VT) (acc : List VT) (wt wr r : List Wd) (d n f : Nat), szL (t :: L) ≤ N → plainL (t :: L) = true → wfL (t :: L) → wt.map shp = shV t → wr.map shp = shLc L ++ [(1, [93])] → d + 1 + hgL (t :: L) ≤ 33 → n + szL (t :: L) ≤ 4096 → 2 * (wt.length + wr.length) + 2 ≤ f →
    jrL f d n acc (wt ++ (wr ++ r)) = .ok (listT (acc ++ bkL (t :: L))) (n + szL (t :: L)) r
  | L, t, acc, wt, wr, r, d, n, 0, _, _, _, _, _, _, _, hf => by omega
  | [], t, acc, wt, wr, r, d, n, f + 1, hN, hp, hw, hwt, hwr, hd, hn, hf => by
    rw [plainL, Bool.and_eq_true] at hp
    rw [wfL] at hw
    simp only [szL, Nat.add_zero] at hN hn ⊢
    rw [hgL_cons] at hd
    obtain ⟨x, b, rfl, hx, hb⟩ := map_cons' hwr
    obtain rfl : b = [] := by simpa using hb
    rw [jrL, ih t hN hp.1 hw.1 wt _ (d + 1) n f hwt (by omega) hn (by simp at hf; omega)]
    simp only [List.singleton_append]
    rw [if_neg (by rw [isM_sh_no hx (by decide)]; decide), if_pos (isM_sh hx)]
    rfl
  | t2 :: L, t, acc, wt, wr, r, d, n, f + 1, hN, hp, hw, hwt, hwr, hd, hn, hf => by
    rw [plainL, Bool.and_eq_true] at hp
    rw [wfL] at hw
    rw [szL] at hN hn
    rw [hgL_cons] at hd
    have h2 := szT_pos t2
    rw [shLc, List.cons_append, List.append_assoc] at hwr
    obtain ⟨x, b, rfl, hx, hb⟩ := map_cons' hwr
    obtain ⟨wt2, wr2, rfl, hwt2, hwr2⟩ := map_split hb
    simp only [List.length_cons, List.length_append] at hf
    rw [jrL, ih t (by omega) hp.1 hw.1 wt _ (d + 1) n f hwt (by omega) (by omega) (by omega)]
    simp only [List.cons_append]
    rw [if_pos (isM_sh hx), List.tail_cons, List.append_assoc, sp_list N ih L t2 (acc ++ [bkT t]) wt2 wr2 r d (n + szT t) f (by omega) hp.2 hw.2 hwt2 hwr2 (by omega) (by omega) (by omega)]
    rw [show bkL (t :: t2 :: L) = bkT t :: bkL (t2 :: L) from by rw [bkL], List.append_assoc, List.singleton_append, show szL (t :: t2 :: L) = szT t + szL (t2 :: L) from by rw [szL], Nat.add_assoc]
theorem ins_end (key : ByteArray) (x : VT) : ∀ (P : List (ByteArray × VT)), (∀ a ∈ P, ltB a.1.data.toList key.data.toList = true ∧ ¬ a.1.data.toList = key.data.toList) → insP key x false P = P ++ [(key, x)]
  | [], _ => by rw [insP]; rfl
  | a :: P, h => by
    obtain ⟨h1, h2⟩ := h a (List.mem_cons_self ..)
    rw [insP, h1, if_neg h2]
    simp only [Bool.not_true, Bool.and_false, Bool.false_eq_true, if_false, Bool.or_false, List.nil_append, List.singleton_append]
    rw [ins_end key x P (fun b hb => h b (List.mem_cons_of_mem _ hb))]
    rfl
theorem find_not {key : ByteArray} : ∀ (s : List (ByteArray × VT)), (∀ a ∈ s, ¬ a.1.data.toList = key.data.toList) → (findK key (s.map (·.1)) (s.map (·.2))).isSome = false
  | [], _ => rfl
  | a :: s, h => by
    rw [List.map_cons, List.map_cons, findK, if_neg (h a (List.mem_cons_self ..))]
    exact find_not s (fun b hb => h b (List.mem_cons_of_mem _ hb))
/-- keys that rise, with those ahead of them -/
def Ris (P : List (ByteArray × VT)) (K : List ByteArray) : Prop := (∀ a ∈ P, ∀ c ∈ K, ltB a.1.data.toList c.data.toList = true ∧ ¬ a.1.data.toList = c.data.toList) ∧ ∀ (i j : Nat) (a b : ByteArray), i < j → K[i]? = some a → K[j]? = some b → ltB a.data.toList b.data.toList = true ∧ ¬ a.data.toList = b.data.toList
theorem Ris.next {P : List (ByteArray × VT)} {c : ByteArray} {K : List ByteArray} {x : VT} (h : Ris P (c :: K)) : Ris (P ++ [(c, x)]) K := by
  refine ⟨fun a ha b hb => ?_, fun i j a b hij hi hj => h.2 (i + 1) (j + 1) a b (by omega) (by simpa using hi) (by simpa using hj)⟩
  rcases List.mem_append.1 ha with ha | ha
  · exact h.1 a ha b (List.mem_cons_of_mem _ hb)
  · rw [List.mem_singleton.1 ha]
    obtain ⟨j, hj⟩ := List.getElem?_of_mem hb
    exact h.2 0 (j + 1) c b (by omega) rfl (by simpa using hj)
theorem sp_map (N : Nat) (ih : Sp N) : ∀ (V : List VT) (t : VT) (c : ByteArray) (K : List ByteArray) (acc : List (ByteArray × VT)) (xk xc : Wd) (wt wr r : List Wd) (d n f : Nat), szL (t :: V) ≤ N → plainL (t :: V) = true → wfL (t :: V) → K.length = V.length → Ris acc (c :: K) → shp xk = (2, c.data.toList) → shp xc = (1, [58]) → wt.map shp = shV t → wr.map shp = shMc V K ++ [(1, [125])] → d + 1 + hgL (t :: V) ≤ 33 → n + szL (t :: V) ≤ 4096 → 2 * (wt.length + wr.length + 2) + 2 ≤ f →
    jrP f d n acc (xk :: xc :: (wt ++ (wr ++ r))) = .ok (mapT (acc ++ (c :: K).zip (bkL (t :: V)))) (n + szL (t :: V)) r
  | V, t, c, K, acc, xk, xc, wt, wr, r, d, n, 0, _, _, _, _, _, _, _, _, _, _, _, hf => by omega
  | V, t, c, K, acc, xk, xc, wt, wr, r, d, n, f + 1, hN, hp, hw, hKl, hR, hk, hc, hwt, hwr, hd, hn, hf => by
    rw [plainL, Bool.and_eq_true] at hp
    rw [wfL] at hw
    rw [szL] at hN hn
    rw [hgL_cons] at hd
    have hk1 : xk.kd = 2 := by unfold shp at hk; injection hk
    have hk2 : mkS xk.tx = c := by unfold shp at hk; injection hk with _ e; rw [e, ← mkS_of c _ rfl]
    have hno : ∀ a ∈ acc, ltB a.1.data.toList c.data.toList = true ∧ ¬ a.1.data.toList = c.data.toList := fun a ha => hR.1 a ha c (List.mem_cons_self ..)
    have hstep : jrP (f + 1) d n acc (xk :: xc :: (wt ++ (wr ++ r))) = match jrV f (d + 1) n (wt ++ (wr ++ r)) with
        | .bad e a => .bad e a
        | .ok t' m q => if isM 44 q = true then jrP f d m (acc ++ [(c, t')]) q.tail else if isM 125 q = true then .ok (mapT (acc ++ [(c, t')])) m q.tail else .bad 4 (atW q) := by
      rw [jrP, if_neg (by rw [hk1]; simp), hk2, if_neg (by rw [find_not acc (fun a ha => (hno a ha).2)]; decide), if_neg (by rw [isM_sh hc]; simp), List.tail_cons]
      cases jrV f (d + 1) n (wt ++ (wr ++ r)) with
      | bad e a => rfl
      | ok t' m q => simp only; rw [ins_end c t' acc hno]
    rw [hstep, ih t (by omega) hp.1 hw.1 wt _ (d + 1) n f hwt (by omega) (by omega) (by omega)]
    cases V with
    | nil =>
      obtain rfl : K = [] := List.eq_nil_of_length_eq_zero hKl
      obtain ⟨x, b, rfl, hx, hb⟩ := map_cons' hwr
      obtain rfl : b = [] := by simpa using hb
      simp only [List.singleton_append]
      rw [if_neg (by rw [isM_sh_no hx (by decide)]; decide), if_pos (isM_sh hx)]
      simp [bkL, szL]
    | cons t2 V =>
      cases K with
      | nil => simp at hKl
      | cons c2 K =>
        rw [shMc] at hwr
        simp only [List.headD_cons, List.tail_cons, List.cons_append, List.append_assoc] at hwr
        obtain ⟨x, b, rfl, hx, hb⟩ := map_cons' hwr
        obtain ⟨xk2, b, rfl, hxk, hb⟩ := map_cons' hb
        obtain ⟨xc2, b, rfl, hxc, hb⟩ := map_cons' hb
        obtain ⟨wt2, wr2, rfl, hwt2, hwr2⟩ := map_split hb
        simp only [List.length_cons, List.length_append] at hf
        simp only [List.cons_append]
        rw [if_pos (isM_sh hx), List.tail_cons, List.append_assoc, sp_map N ih V t2 c2 K (acc ++ [(c, bkT t)]) xk2 xc2 wt2 wr2 r d (n + szT t) f (by omega) hp.2 hw.2 (by simpa using hKl) hR.next hxk hxc hwt2 hwr2 (by omega) (by omega) (by omega)]
        rw [show bkL (t :: t2 :: V) = bkT t :: bkL (t2 :: V) from by rw [bkL], List.zip_cons_cons, List.append_assoc, List.singleton_append, show szL (t :: t2 :: V) = szT t + szL (t2 :: V) from by rw [szL], Nat.add_assoc]
theorem bkL_len : ∀ L : List VT, (bkL L).length = L.length
  | [] => rfl
  | t :: r => by rw [bkL, List.length_cons, List.length_cons, bkL_len r]
theorem lt_ne {a b : List UInt8} (h : ltB a b = true) : ¬ a = b := by
  rintro rfl
  have := ltB_irr a
  rw [h] at this
  cases this
/-- the words of a value are read as that value -/
theorem jr_sp : ∀ N : Nat, Sp N
  | 0 => fun v h => by have := szT_pos v; omega
  | N + 1 => by
    have ih := jr_sp N
    intro v hN hp hw ws r d n f hws hd hn hf
    have hsz := szT_pos v
    have hhg := hgT_pos v
    obtain ⟨g, rfl⟩ : ∃ g, f = g + 1 := ⟨f - 1, by omega⟩
    have hlim : ¬ (32 < d ∨ 4096 < n + 1) := by omega
    cases v with
    | mk k m s L K V =>
      have hp' := hp
      rw [plainT, Bool.and_eq_true, Bool.and_eq_true] at hp
      obtain ⟨⟨hnode, hpL⟩, hpV⟩ := hp
      have hw' := hw
      rw [wfT] at hw
      obtain ⟨-, hKV, hwL, hwV⟩ := hw
      rw [shV] at hws
      have hz : szT (.mk k m s L K V) = 1 + szL L + szL V := by rw [szT]
      have hh : hgT (.mk k m s L K V) = 1 + max (hgL L) (hgL V) := by rw [hgT]
      by_cases h5 : k = 5
      · subst h5
        rw [if_pos rfl] at hws
        unfold nodeB nodeC at hnode
        simp [VT.kd, VT.nm, VT.st, VT.vs] at hnode
        obtain ⟨⟨a, b⟩, dd⟩ := hnode
        subst a
        have hb := nil_toList (s := s) (by simpa using b)
        subst hb
        subst dd
        obtain rfl : K = [] := List.eq_nil_of_length_eq_zero hKV
        obtain ⟨x, b2, rfl, hx, hb2⟩ := map_cons' hws
        have hx1 : x.kd = 1 := by unfold shp at hx; injection hx
        have hx2 : x.tx = [91] := by unfold shp at hx; injection hx
        have hbg : begB x = true := by unfold begB; rw [hx1, hx2]; decide
        rw [List.cons_append, jrV_list hbg hlim hx1 hx2]
        simp only [szL, Nat.add_zero] at hz
        cases L with
        | nil =>
          rw [shL, List.nil_append] at hb2
          obtain ⟨y, b3, rfl, hy, hb3⟩ := map_cons' hb2
          obtain rfl : b3 = [] := by simpa using hb3
          simp only [List.singleton_append]
          rw [if_pos (isM_sh hy)]
          simp [bkT, bkL, listT, szT, szL]
        | cons t L =>
          rw [shL, List.append_assoc] at hb2
          obtain ⟨wt, wr, rfl, hwt, hwr⟩ := map_split hb2
          obtain ⟨p, rr, e1, e2, -, -⟩ := shV_head t
          rw [e1] at hwt
          obtain ⟨y, b3, hy0, hy, hb3⟩ := map_cons' hwt
          rw [← e1] at hwt
          have hm : isM 93 (wt ++ wr ++ r) = false := by rw [hy0]; exact isM_sh_no hy e2
          rw [if_neg (by rw [hm]; decide), List.append_assoc]
          simp only [List.length_cons, List.length_append] at hf
          rw [sp_list N ih L t [] wt wr r d (n + 1) g (by omega) hpL hwL hwt hwr (by omega) (by omega) (by omega)]
          rw [hz, bkT]
          simp [listT, bkL, Nat.add_assoc]
      · rw [if_neg h5] at hws
        by_cases h6 : k = 6
        · subst h6
          rw [if_pos rfl] at hws
          unfold nodeB nodeC at hnode
          simp [VT.kd, VT.nm, VT.st, VT.ls, VT.ks] at hnode
          obtain ⟨⟨⟨a, b⟩, cc⟩, dd⟩ := hnode
          subst a
          have hb := nil_toList (s := s) (by simpa using b)
          subst hb
          subst cc
          obtain ⟨x, b2, rfl, hx, hb2⟩ := map_cons' hws
          have hx1 : x.kd = 1 := by unfold shp at hx; injection hx
          have hx2 : x.tx = [123] := by unfold shp at hx; injection hx
          have hbg : begB x = true := by unfold begB; rw [hx1, hx2]; decide
          rw [List.cons_append, jrV_map hbg hlim hx1 (by rw [hx2]; decide)]
          simp only [szL, Nat.add_zero] at hz
          cases V with
          | nil =>
            obtain rfl : K = [] := List.eq_nil_of_length_eq_zero (by simpa using hKV)
            rw [shM, List.nil_append] at hb2
            obtain ⟨y, b3, rfl, hy, hb3⟩ := map_cons' hb2
            obtain rfl : b3 = [] := by simpa using hb3
            simp only [List.singleton_append]
            rw [if_pos (isM_sh hy)]
            simp [bkT, bkL, mapT, szT, szL]
          | cons t V =>
            cases K with
            | nil => simp at hKV
            | cons c K =>
              rw [shM] at hb2
              simp only [List.headD_cons, List.tail_cons, List.cons_append, List.append_assoc] at hb2
              obtain ⟨xk, b3, rfl, hxk, hb2⟩ := map_cons' hb2
              obtain ⟨xc, b3, rfl, hxc, hb2⟩ := map_cons' hb2
              obtain ⟨wt, wr, rfl, hwt, hwr⟩ := map_split hb2
              have hm : isM 125 (xk :: xc :: (wt ++ wr) ++ r) = false := isM_sh_no hxk (by simp)
              rw [if_neg (by rw [hm]; decide)]
              simp only [List.length_cons, List.length_append] at hf
              have hst := keys_strict dd
              have hris : Ris [] (c :: K) := ⟨fun a ha => by simp at ha, fun i j a b hij hi hj => ⟨hst i j a b hij hi hj, lt_ne (hst i j a b hij hi hj)⟩⟩
              simp only [List.cons_append, List.append_assoc]
              rw [sp_map N ih V t c K [] xk xc wt wr r d (n + 1) g (by omega) hpV hwV (by simpa using hKV) hris hxk hxc hwt hwr (by omega) (by omega) (by omega)]
              rw [hz, bkT]
              have hlen : (c :: K).length = (bkL (t :: V)).length := by rw [bkL_len]; exact hKV
              rw [List.nil_append, mapT, List.map_fst_zip (by omega), List.map_snd_zip (by omega)]
              simp [bkL, Nat.add_assoc]
        · rw [if_neg h6] at hws
          obtain ⟨x, b2, rfl, hx, hb2⟩ := map_cons' hws
          obtain rfl : b2 = [] := by simpa using hb2
          obtain ⟨e1, e2, e3, e4, e5⟩ := sp_one hnode hw' h5 h6 x hx
          rw [List.singleton_append, jrV_sg e3 hlim e4 e5, e1, e2]
end Go.Proofs.YtkhjahpkbjafaaaGreatDoor
