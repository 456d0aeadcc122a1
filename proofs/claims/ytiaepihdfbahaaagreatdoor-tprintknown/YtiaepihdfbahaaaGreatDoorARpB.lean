/- A time as the program cuts it is a time as the document reads it: plain mathematics. -/
import Derived.Test.YtiaepihdfbahaaaGreatDoorARtF
import Derived.Test.YtiaepihdfbahaaaGreatDoorAMathSx
/- A stamp as the program cuts it is a stamp as the document reads it: plain mathematics. -/
/- A stamp with its zone: as the program cuts it, as the document reads it: plain mathematics. -/
/- The document's judge of what TOML has: stamps. -/
namespace Go.Proofs.YtiaepihdfbahaaaGreatDoor

theorem ckS_nil (ns : List Nat) : ckS [] ns = decide (ns = []) := by cases ns <;> rfl
theorem ckS_spl (l : List UInt8) (n : Nat) (ns : List Nat) : ckS (spl 58 l) (n :: ns) = (twoB (l.take (run (neB 58) l)) n && (if run (neB 58) l < l.length then ckS (spl 58 (l.drop (run (neB 58) l + 1))) ns else decide (ns = []))) := by
  rw [spl_run]
  by_cases h : run (neB 58) l < l.length
  · rw [if_pos h, if_pos h]; rfl
  · rw [if_neg h, if_neg h, List.take_of_length_le (by omega), ← ckS_nil]; rfl
theorem two_is {x : List UInt8} {n : Nat} (h : twoB x n = true) : ∃ a b, x = [a, b] ∧ dgI a = true ∧ dgI b = true ∧ D2 a b < n := by
  unfold twoB at h
  rw [Bool.and_eq_true, Bool.and_eq_true] at h
  obtain ⟨⟨h1, h2⟩, h3⟩ := h
  have h4 : x.length = 2 := of_decide_eq_true h1
  obtain ⟨a, b, rfl⟩ : ∃ a b, x = [a, b] := by
    match x, h4 with
    | [a, b], _ => exact ⟨a, b, rfl⟩
  unfold is2 at h2
  rw [dg_at, dg_up, dg_at, Bool.and_eq_true] at h2
  exact ⟨a, b, rfl, h2.1, h2.2, of_decide_eq_true h3⟩
theorem run_at_stop {c : UInt8} {l : List UInt8} (h : run (neB c) l < l.length) : l = l.take (run (neB c) l) ++ c :: l.drop (run (neB c) l + 1) := by
  have e : l.drop (run (neB c) l) = l[run (neB c) l] :: l.drop (run (neB c) l + 1) := List.drop_eq_getElem_cons h
  have k := run_nob (run_drop0 (neB c) l) _ _ e
  obtain ⟨x, hx⟩ : ∃ x, l[run (neB c) l] = x := ⟨_, rfl⟩
  rw [hx] at e k
  have k3 : x = c := neB_eq k
  rw [k3] at e
  have : l = l.take (run (neB c) l) ++ l.drop (run (neB c) l) := (List.take_append_drop _ _).symm
  rw [e] at this
  exact this
theorem two_cut {l : List UInt8} {n : Nat} {ns : List Nat} (h : ckS (spl 58 l) (n :: ns) = true) : ∃ a b, dgI a = true ∧ dgI b = true ∧ D2 a b < n ∧ ((ns = [] ∧ l = [a, b]) ∨ ∃ m, l = a :: b :: 58 :: m ∧ ckS (spl 58 m) ns = true) := by
  rw [ckS_spl, Bool.and_eq_true] at h
  obtain ⟨a, b, hx, ha, hb, hn⟩ := two_is h.1
  refine ⟨a, b, ha, hb, hn, ?_⟩
  by_cases hr : run (neB 58) l < l.length
  · right
    have h2 := h.2
    rw [if_pos hr] at h2
    have e := run_at_stop hr
    rw [hx] at e
    exact ⟨_, e, h2⟩
  · left
    have h2 := h.2
    rw [if_neg hr] at h2
    rw [List.take_of_length_le (by omega)] at hx
    exact ⟨of_decide_eq_true h2, hx⟩
theorem three_cut {l : List UInt8} {p q r : Nat} (h : ckS (spl 58 l) [p, q, r] = true) : ∃ a b c d e f, l = [a, b, 58, c, d, 58, e, f] ∧ dgI a = true ∧ dgI b = true ∧ dgI c = true ∧ dgI d = true ∧ dgI e = true ∧ dgI f = true ∧ D2 a b < p ∧ D2 c d < q ∧ D2 e f < r := by
  obtain ⟨a, b, ha, hb, h1, ⟨k, -⟩ | ⟨m, rfl, h2⟩⟩ := two_cut h
  · cases k
  obtain ⟨c, d, hc, hd, h3, ⟨k, -⟩ | ⟨m2, rfl, h4⟩⟩ := two_cut h2
  · cases k
  obtain ⟨e, f, he, hf, h5, ⟨-, rfl⟩ | ⟨m3, rfl, h6⟩⟩ := two_cut h4
  · exact ⟨a, b, c, d, e, f, rfl, ha, hb, hc, hd, he, hf, h1, h3, h5⟩
  · rw [spl_run] at h6
    split at h6 <;> cases h6
/-- a time's text -/
def TmI (l : List UInt8) : Prop := ∃ a b c d e f : UInt8, dgI a = true ∧ dgI b = true ∧ dgI c = true ∧ dgI d = true ∧ dgI e = true ∧ dgI f = true ∧ D2 a b < 24 ∧ D2 c d < 60 ∧ D2 e f < 61 ∧ (l = [a, b, 58, c, d, 58, e, f] ∨ ∃ g, l = [a, b, 58, c, d, 58, e, f] ++ 46 :: g ∧ frB g = true)
theorem tm_iff (l : List UInt8) : tmB l = true ↔ TmI l := by
  constructor
  · intro h
    unfold tmB at h
    rw [Bool.and_eq_true] at h
    obtain ⟨a, b, c, d, e, f, hl, ha, hb, hc, hd, he, hf, h1, h2, h3⟩ := three_cut h.1
    refine ⟨a, b, c, d, e, f, ha, hb, hc, hd, he, hf, h1, h2, h3, ?_⟩
    have hg := h.2
    unfold ckD ckF at hg
    unfold ckH at hl
    by_cases hr : run (neB 46) l < l.length
    · right
      rw [decide_eq_true hr] at hg
      have e9 := run_at_stop hr
      rw [hl] at e9
      exact ⟨_, e9, by simpa using hg⟩
    · left
      rw [List.take_of_length_le (by omega)] at hl
      exact hl
  · rintro ⟨a, b, c, d, e, f, ha, hb, hc, hd, he, hf, h1, h2, h3, rfl | ⟨g, rfl, hg⟩⟩
    · rw [tm_plain (six ha hb hc hd he hf), ck3 ha hb hc hd he hf, decide_eq_true h1, decide_eq_true h2, decide_eq_true h3]; rfl
    · have hr : run (neB 46) ([a, b, 58, c, d, 58, e, f] ++ 46 :: g) = 8 := by rw [run46 (six ha hb hc hd he hf), run_cneg (by decide)]; rfl
      unfold tmB ckH ckD ckF
      rw [hr]
      show (ckS (spl 58 [a, b, 58, c, d, 58, e, f]) [24, 60, 61] && (!decide (8 < g.length + 1 + 1 + 1 + 1 + 1 + 1 + 1 + 1 + 1) || frB g)) = true
      rw [ck3 ha hb hc hd he hf, decide_eq_true h1, decide_eq_true h2, decide_eq_true h3, hg]; simp
theorem ck_iff (l : List UInt8) : (decide (l ≠ []) && decide (ckN l = l.length)) = true ↔ TmI l := by
  constructor
  · intro h
    rw [Bool.and_eq_true] at h
    have h0 : l ≠ [] := of_decide_eq_true h.1
    have h1 : ckN l = l.length := of_decide_eq_true h.2
    have hp : 0 < l.length := List.length_pos_iff.2 h0
    unfold ckN at h1
    by_cases hk : ck8 l = true
    · rw [if_pos hk] at h1
      unfold ck8 tw is2 at hk
      simp only [Bool.and_eq_true, decide_eq_true_eq] at hk
      obtain ⟨⟨⟨⟨⟨k8, k2⟩, k5⟩, ⟨k01, kb0⟩⟩, ⟨k34, kb3⟩⟩, ⟨k67, kb6⟩⟩ := hk
      match l, k8, h1, k2, k5, k01, k34, k67, kb0, kb3, kb6 with
      | a :: b :: x :: c :: d :: y :: e :: f :: r, _, h1, k2, k5, k01, k34, k67, kb0, kb3, kb6 =>
        have hx : x = 58 := UInt8.toNat_inj.1 k2
        have hy : y = 58 := UInt8.toNat_inj.1 k5
        subst hx hy
        refine ⟨a, b, c, d, e, f, k01.1, k01.2, k34.1, k34.2, k67.1, k67.2, kb0, kb3, kb6, ?_⟩
        cases r with
        | nil => exact Or.inl rfl
        | cons z g =>
          right
          by_cases hz : z.toNat = 46
          · have hz2 : z = 46 := UInt8.toNat_inj.1 hz
            subst hz2
            refine ⟨g, rfl, ?_⟩
            rw [if_pos ⟨by simp, rfl⟩] at h1
            have hd : (a :: b :: 58 :: c :: d :: 58 :: e :: f :: 46 :: g).drop 9 = g := rfl
            rw [hd] at h1
            simp only [List.length_cons] at h1
            by_cases hb : run dgI g = 0 ∨ 9 < run dgI g
            · rw [if_pos hb] at h1; omega
            · rw [if_neg hb] at h1
              have hg : run dgI g = g.length := by omega
              unfold frB
              rw [decide_eq_true (by intro e2; rw [e2] at hb; exact hb (Or.inl rfl)), decide_eq_true (by omega), decide_eq_true hg]; rfl
          · rw [if_neg (fun k => hz k.2)] at h1
            simp only [List.length_cons] at h1
            omega
    · rw [if_neg hk] at h1; omega
  · rintro ⟨a, b, c, d, e, f, ha, hb, hc, hd, he, hf, h1, h2, h3, hl⟩
    have hk : ∀ r, ck8 (a :: b :: 58 :: c :: d :: 58 :: e :: f :: r) = true := by
      intro r
      unfold ck8 tw is2
      simp only [Bool.and_eq_true, decide_eq_true_eq]
      exact ⟨⟨⟨⟨⟨by simp, rfl⟩, rfl⟩, ⟨⟨ha, hb⟩, h1⟩⟩, ⟨⟨hc, hd⟩, h2⟩⟩, ⟨⟨he, hf⟩, h3⟩⟩
    rcases hl with rfl | ⟨g, rfl, hg⟩
    · unfold ckN; rw [if_pos (hk []), if_neg (by simp)]; rfl
    · unfold frB at hg
      simp only [Bool.and_eq_true, decide_eq_true_eq] at hg
      have hgl : 0 < g.length := List.length_pos_iff.2 hg.1.1
      show (decide (_ ≠ []) && decide (ckN (a :: b :: 58 :: c :: d :: 58 :: e :: f :: 46 :: g) = g.length + 9)) = true
      unfold ckN
      rw [if_pos (hk (46 :: g)), if_pos ⟨by simp, rfl⟩]
      have hd9 : (a :: b :: 58 :: c :: d :: 58 :: e :: f :: 46 :: g).drop 9 = g := rfl
      rw [hd9, if_neg (by omega), hg.2, decide_eq_true (by simp), decide_eq_true (by omega)]; rfl
theorem tm_same (l : List UInt8) : tmB l = (decide (l ≠ []) && decide (ckN l = l.length)) := Bool.eq_iff_iff.2 ((tm_iff l).trans (ck_iff l).symm)
end Go.Proofs.YtiaepihdfbahaaaGreatDoor
namespace Go.Proofs.YtiaepihdfbahaaaGreatDoor

theorem run_mem {p : UInt8 → Bool} : ∀ {l : List UInt8}, run p l = l.length → ∀ b ∈ l, p b = true
  | [], _, b, hb => by cases hb
  | a :: l, h, b, hb => by
    cases hp : p a with
    | false => rw [run_cneg hp] at h; simp at h
    | true =>
      rw [run_cpos hp] at h
      rcases List.mem_cons.1 hb with rfl | hb
      · exact hp
      · exact run_mem (by simpa using h) b hb
theorem run_join {p : UInt8 → Bool} : ∀ {l m : List UInt8}, (∀ b ∈ l, p b = true) → (∀ b r, m = b :: r → p b = false) → run p (l ++ m) = l.length
  | [], [], _, _ => rfl
  | [], b :: r, _, h => run_cneg (h b r rfl)
  | a :: l, m, h, k => by
    rw [List.cons_append, run_cpos (h a (List.mem_cons_self ..)), run_join (fun b hb => h b (List.mem_cons_of_mem _ hb)) k]; rfl
theorem ck8_any {a b c d e f : UInt8} (ha : dgI a = true) (hb : dgI b = true) (hc : dgI c = true) (hd : dgI d = true) (he : dgI e = true) (hf : dgI f = true) (h1 : D2 a b < 24) (h2 : D2 c d < 60) (h3 : D2 e f < 61) (r : List UInt8) : ck8 (a :: b :: 58 :: c :: d :: 58 :: e :: f :: r) = true := by
  unfold ck8 tw is2
  simp only [Bool.and_eq_true, decide_eq_true_eq]
  exact ⟨⟨⟨⟨⟨by simp, rfl⟩, rfl⟩, ⟨⟨ha, hb⟩, h1⟩⟩, ⟨⟨hc, hd⟩, h2⟩⟩, ⟨⟨he, hf⟩, h3⟩⟩
/-- what stands behind a time and does not go on with it -/
def Off (z : List UInt8) : Prop := ∀ b r, z = b :: r → dgI b = false ∧ b.toNat ≠ 46
theorem ck_app {t z : List UInt8} (h : TmI t) (hz : Off z) : ckN (t ++ z) = t.length := by
  obtain ⟨a, b, c, d, e, f, ha, hb, hc, hd, he, hf, h1, h2, h3, rfl | ⟨g, rfl, hg⟩⟩ := h
  · show ckN (a :: b :: 58 :: c :: d :: 58 :: e :: f :: z) = 8
    unfold ckN
    rw [if_pos (ck8_any ha hb hc hd he hf h1 h2 h3 z)]
    cases z with
    | nil => rfl
    | cons y r =>
      rw [if_neg (fun k => (hz y r rfl).2 k.2)]
  · unfold frB at hg
    simp only [Bool.and_eq_true, decide_eq_true_eq] at hg
    have hgl : 0 < g.length := List.length_pos_iff.2 hg.1.1
    have hr : run dgI (g ++ z) = g.length := run_join (run_mem hg.2) (fun b r k => (hz b r k).1)
    show ckN (a :: b :: 58 :: c :: d :: 58 :: e :: f :: 46 :: (g ++ z)) = g.length + 9
    unfold ckN
    rw [if_pos (ck8_any ha hb hc hd he hf h1 h2 h3 _), if_pos ⟨by simp, rfl⟩]
    have hd9 : (a :: b :: 58 :: c :: d :: 58 :: e :: f :: 46 :: (g ++ z)).drop 9 = g ++ z := rfl
    rw [hd9, hr, if_neg (by omega)]; omega
theorem tmi_len {t : List UInt8} (h : TmI t) : t.length ≠ 0 := by
  obtain ⟨a, b, c, d, e, f, -, -, -, -, -, -, -, -, -, rfl | ⟨g, rfl, -⟩⟩ := h <;> simp
theorem tmi_mem {t : List UInt8} (h : TmI t) : ∀ b ∈ t, dgI b = true ∨ b.toNat = 58 ∨ b.toNat = 46 := by
  obtain ⟨a, b, c, d, e, f, ha, hb, hc, hd, he, hf, h1, h2, h3, h⟩ := h
  have h8 : ∀ x ∈ [a, b, 58, c, d, 58, e, f], dgI x = true ∨ x.toNat = 58 ∨ x.toNat = 46 := by
    intro x hx
    simp only [List.mem_cons, List.not_mem_nil, or_false] at hx
    rcases hx with rfl | rfl | rfl | rfl | rfl | rfl | rfl | rfl
    · exact Or.inl ha
    · exact Or.inl hb
    · exact Or.inr (Or.inl rfl)
    · exact Or.inl hc
    · exact Or.inl hd
    · exact Or.inr (Or.inl rfl)
    · exact Or.inl he
    · exact Or.inl hf
  rcases h with rfl | ⟨g, rfl, hg⟩
  · exact h8
  · intro x hx
    rcases List.mem_append.1 hx with hx | hx
    · exact h8 x hx
    · rcases List.mem_cons.1 hx with rfl | hx
      · exact Or.inr (Or.inr rfl)
      · unfold frB at hg
        simp only [Bool.and_eq_true, decide_eq_true_eq] at hg
        exact Or.inl (run_mem hg.2 x hx)
theorem run_take (p : UInt8 → Bool) : ∀ l : List UInt8, ∀ b ∈ l.take (run p l), p b = true
  | [], b, hb => by simp at hb
  | a :: l, b, hb => by
    cases hp : p a with
    | false => rw [run_cneg hp] at hb; simp at hb
    | true =>
      rw [run_cpos hp, List.take_succ_cons] at hb
      rcases List.mem_cons.1 hb with rfl | hb
      · exact hp
      · exact run_take p l b hb
theorem ckN_take {x : List UInt8} (h : ckN x ≠ 0) : TmI (x.take (ckN x)) := by
  by_cases hk : ck8 x = true
  · have hk1 := hk
    unfold ck8 tw is2 at hk
    simp only [Bool.and_eq_true, decide_eq_true_eq] at hk
    obtain ⟨⟨⟨⟨⟨k8, k2⟩, k5⟩, ⟨k01, kb0⟩⟩, ⟨k34, kb3⟩⟩, ⟨k67, kb6⟩⟩ := hk
    match x, k8, h, hk1, k2, k5, k01, k34, k67, kb0, kb3, kb6 with
    | a :: b :: x :: c :: d :: y :: e :: f :: r, _, h, hk1, k2, k5, k01, k34, k67, kb0, kb3, kb6 =>
      have hx : x = 58 := UInt8.toNat_inj.1 k2
      have hy : y = 58 := UInt8.toNat_inj.1 k5
      subst hx hy
      refine ⟨a, b, c, d, e, f, k01.1, k01.2, k34.1, k34.2, k67.1, k67.2, kb0, kb3, kb6, ?_⟩
      unfold ckN at h ⊢
      rw [if_pos hk1] at h ⊢
      by_cases h8 : 8 < (a :: b :: 58 :: c :: d :: 58 :: e :: f :: r).length ∧ bt (a :: b :: 58 :: c :: d :: 58 :: e :: f :: r) 8 = 46
      · rw [if_pos h8] at h ⊢
        cases r with
        | nil => simp at h8
        | cons z g =>
          have hz : z = 46 := UInt8.toNat_inj.1 h8.2
          subst hz
          have hd9 : (a :: b :: 58 :: c :: d :: 58 :: e :: f :: 46 :: g).drop 9 = g := rfl
          rw [hd9] at h ⊢
          by_cases hb : run dgI g = 0 ∨ 9 < run dgI g
          · rw [if_pos hb] at h; exact absurd rfl h
          · rw [if_neg hb]
            right
            have hle : run dgI g ≤ g.length := by unfold run; exact (List.takeWhile_sublist _).length_le
            refine ⟨g.take (run dgI g), ?_, ?_⟩
            · rw [Nat.add_comm 9]; rfl
            · have hl : (g.take (run dgI g)).length = run dgI g := by rw [List.length_take]; omega
              unfold frB
              rw [run_full (run_take dgI g), hl, decide_eq_true (by intro e2; rw [e2] at hl; simp at hl; omega), decide_eq_true (by omega), decide_eq_true rfl]; rfl
      · rw [if_neg h8]
        exact Or.inl rfl
  · unfold ckN at h
    rw [if_neg hk] at h; exact absurd rfl h
end Go.Proofs.YtiaepihdfbahaaaGreatDoor
namespace Go.Proofs.YtiaepihdfbahaaaGreatDoor

theorem bt_mem {l : List UInt8} {k : Nat} (h : k < l.length) : ∃ b, b ∈ l ∧ bt l k = b.toNat := ⟨l[k], List.getElem_mem h, bt_some (List.getElem?_eq_getElem h)⟩
theorem bt_back (t z : List UInt8) (j : Nat) : bt (t ++ z) (t.length + j) = bt z j := by
  rw [← bt_drop, List.drop_left]
theorem dt_of {t z : List UInt8} (h : TmI t) (hz : Off z) (hd : dzB z = true) : dtB (t ++ z) = true := by
  unfold dtB
  rw [ck_app h hz, List.drop_left, hd, decide_eq_true (tmi_len h)]; rfl
theorem zo_is {z : List UInt8} (h : zo6 z = true) : ∃ s a b c d, z = [s, a, b, 58, c, d] ∧ (s.toNat = 43 ∨ s.toNat = 45) ∧ dgI a = true ∧ dgI b = true ∧ dgI c = true ∧ dgI d = true ∧ D2 a b < 24 ∧ D2 c d < 60 := by
  unfold zo6 tw is2 at h
  simp only [Bool.and_eq_true, decide_eq_true_eq] at h
  obtain ⟨⟨⟨⟨h6, hs⟩, ⟨k1, b1⟩⟩, h3⟩, ⟨k4, b4⟩⟩ := h
  match z, h6, hs, k1, b1, h3, k4, b4 with
  | [s, a, b, x, c, d], _, hs, k1, b1, h3, k4, b4 =>
    have hx : x = 58 := UInt8.toNat_inj.1 h3
    subst hx
    exact ⟨s, a, b, c, d, rfl, hs, k1.1, k1.2, k4.1, k4.2, b1, b4⟩
theorem zo_of {s a b c d : UInt8} (hs : s.toNat = 43 ∨ s.toNat = 45) (ha : dgI a = true) (hb : dgI b = true) (hc : dgI c = true) (hd : dgI d = true) (h1 : D2 a b < 24) (h2 : D2 c d < 60) : zo6 [s, a, b, 58, c, d] = true := by
  unfold zo6 tw is2
  simp only [Bool.and_eq_true, decide_eq_true_eq]
  exact ⟨⟨⟨⟨rfl, hs⟩, ⟨⟨ha, hb⟩, h1⟩⟩, rfl⟩, ⟨⟨hc, hd⟩, h2⟩⟩
theorem ck2y {a b c d : UInt8} (ha : dgI a = true) (hb : dgI b = true) (hc : dgI c = true) (hd : dgI d = true) (h1 : D2 a b < 24) (h2 : D2 c d < 60) : ckS (spl 58 [a, b, 58, c, d]) [24, 60] = true := by
  rw [spl_2 ha hb, spl_e hc hd, ckS, ckS, ckS, tw_two ha hb, tw_two hc hd, decide_eq_true h1, decide_eq_true h2]; rfl
theorem off_nil : Off [] := fun b r h => by cases h
theorem off_cons {y : UInt8} {r : List UInt8} (h : dgI y = false) (k : y.toNat ≠ 46) : Off (y :: r) := fun b r' e => by injection e with e1 e2; subst e1; exact ⟨h, k⟩
theorem dgI_no {y : UInt8} (h : y.toNat < 48 ∨ 57 < y.toNat) : dgI y = false := decide_eq_false (by omega)
theorem zn_none {t : List UInt8} (h : TmI t) : znT t = t := by
  have hp := tmi_len h
  have hm := tmi_mem h
  have c1 : znB t = false := by
    obtain ⟨b, hb, e⟩ := bt_mem (l := t) (k := t.length - 1) (by omega)
    unfold znB
    rw [e]
    have := hm b hb
    unfold dgI at this
    simp only [decide_eq_true_eq] at this
    exact decide_eq_false (by omega)
  have c2 : zoB t = false := by
    unfold zoB
    by_cases h6 : 6 ≤ t.length
    · obtain ⟨b, hb, e⟩ := bt_mem (l := t) (k := t.length - 6) (by omega)
      have := hm b hb
      unfold dgI at this
      simp only [decide_eq_true_eq] at this
      rw [e, decide_eq_false (show ¬ (b.toNat = 43 ∨ b.toNat = 45) by omega)]; simp
    · rw [decide_eq_false h6]; rfl
  unfold znT
  rw [if_neg (fun k => by rw [c1] at k; cases k.2), if_neg (by rw [c2]; decide)]
theorem zn_zy {t : List UInt8} {y : UInt8} (hy : y.toNat = 90 ∨ y.toNat = 122) : znT (t ++ [y]) = t := by
  have hl : (t ++ [y]).length = t.length + 1 := by simp
  have c1 : znB (t ++ [y]) = true := by
    unfold znB
    rw [hl, show t.length + 1 - 1 = t.length + 0 by omega, bt_back]
    exact decide_eq_true hy
  unfold znT
  rw [if_pos ⟨by simp, c1⟩, hl, show t.length + 1 - 1 = t.length by omega, List.take_left]
theorem zn_o {t : List UInt8} {s a b c d : UInt8} (hs : s.toNat = 43 ∨ s.toNat = 45) (ha : dgI a = true) (hb : dgI b = true) (hc : dgI c = true) (hd : dgI d = true) (h1 : D2 a b < 24) (h2 : D2 c d < 60) : znT (t ++ [s, a, b, 58, c, d]) = t := by
  have hl : (t ++ [s, a, b, 58, c, d]).length = t.length + 6 := by simp
  have c1 : znB (t ++ [s, a, b, 58, c, d]) = false := by
    unfold znB
    rw [hl, show t.length + 6 - 1 = t.length + 5 by omega, bt_back]
    have := dg_get hd
    exact decide_eq_false (by show ¬ (d.toNat = 90 ∨ d.toNat = 122); omega)
  have c2 : zoB (t ++ [s, a, b, 58, c, d]) = true := by
    unfold zoB
    rw [hl, show t.length + 6 - 6 = t.length + 0 by omega, bt_back, decide_eq_true (show 6 ≤ t.length + 6 by omega), ← List.drop_drop, show t.length + 0 = t.length by omega, List.drop_left]
    have e : decide (bt [s, a, b, 58, c, d] 0 = 43 ∨ bt [s, a, b, 58, c, d] 0 = 45) = true := decide_eq_true hs
    rw [e]
    exact ck2y ha hb hc hd h1 h2
  unfold znT
  rw [if_neg (fun k => by rw [c1] at k; cases k.2), if_pos c2, hl, show t.length + 6 - 6 = t.length by omega, List.take_left]
theorem zn_same (x : List UInt8) : tmB (znT x) = dtB x := by
  rw [Bool.eq_iff_iff, tm_iff]
  constructor
  · intro h
    unfold znT at h
    by_cases h1 : x ≠ [] ∧ znB x = true
    · rw [if_pos h1] at h
      have hp : 0 < x.length := List.length_pos_iff.2 h1.1
      obtain ⟨y, hy, e⟩ := bt_mem (l := x) (k := x.length - 1) (by omega)
      have hx : x = x.take (x.length - 1) ++ [x[x.length - 1]] := by
        have := List.take_succ_eq_append_getElem (l := x) (i := x.length - 1) (by omega)
        rw [List.take_of_length_le (by omega)] at this
        exact this
      have hb : bt x (x.length - 1) = x[x.length - 1].toNat := bt_some (List.getElem?_eq_getElem (by omega))
      have hz := h1.2
      unfold znB at hz
      rw [hb] at hz
      generalize x[x.length - 1] = v at hx hz
      have hz2 : v.toNat = 90 ∨ v.toNat = 122 := of_decide_eq_true hz
      rw [hx]
      refine dt_of h (off_cons (dgI_no (by omega)) (by omega)) ?_
      unfold dzB
      rw [decide_eq_true]; rfl
      rcases hz2 with k | k
      · exact Or.inr (Or.inl (by rw [show v = 90 from UInt8.toNat_inj.1 k]))
      · exact Or.inr (Or.inr (by rw [show v = 122 from UInt8.toNat_inj.1 k]))
    · rw [if_neg h1] at h
      by_cases h2 : zoB x = true
      · rw [if_pos h2] at h
        unfold zoB at h2
        rw [Bool.and_eq_true, Bool.and_eq_true] at h2
        obtain ⟨⟨k6, ks⟩, kc⟩ := h2
        have h6 : 6 ≤ x.length := of_decide_eq_true k6
        have hs := of_decide_eq_true ks
        have hx : x = x.take (x.length - 6) ++ x.drop (x.length - 6) := (List.take_append_drop _ _).symm
        have hzd : x.drop (x.length - 6) = x[x.length - 6] :: x.drop (x.length - 6 + 1) := List.drop_eq_getElem_cons (by omega)
        have hb : bt x (x.length - 6) = x[x.length - 6].toNat := bt_some (List.getElem?_eq_getElem (by omega))
        obtain ⟨a, b, ha, hb1, q1, ⟨k, -⟩ | ⟨m, e1, q2⟩⟩ := two_cut kc
        · cases k
        obtain ⟨c, d, hc, hd, q3, ⟨-, e2⟩ | ⟨m2, -, q4⟩⟩ := two_cut q2
        rotate_left
        · rw [spl_run] at q4
          split at q4 <;> cases q4
        rw [e2] at e1
        rw [e1] at hzd
        rw [hb] at hs
        generalize x[x.length - 6] = v at hzd hs
        rw [hzd] at hx
        rw [hx]
        refine dt_of h (off_cons (dgI_no (by omega)) (by omega)) ?_
        unfold dzB
        rw [zo_of hs ha hb1 hc hd q1 q3]; simp
      · rw [if_neg h2] at h
        have := dt_of h off_nil (by decide)
        rw [List.append_nil] at this
        exact this
  · intro h
    unfold dtB at h
    rw [Bool.and_eq_true] at h
    have h0 : ckN x ≠ 0 := of_decide_eq_true h.1
    have ht := ckN_take h0
    have hx : x = x.take (ckN x) ++ x.drop (ckN x) := (List.take_append_drop _ _).symm
    have hz := h.2
    generalize x.take (ckN x) = t at ht hx
    generalize x.drop (ckN x) = z at hz hx
    subst hx
    unfold dzB at hz
    rw [Bool.or_eq_true] at hz
    rcases hz with hz | hz
    · rcases of_decide_eq_true hz with rfl | rfl | rfl
      · rw [List.append_nil, zn_none ht]; exact ht
      · rw [zn_zy (Or.inl rfl)]; exact ht
      · rw [zn_zy (Or.inr rfl)]; exact ht
    · obtain ⟨s, a, b, c, d, rfl, hs, ha, hb, hc, hd, q1, q2⟩ := zo_is hz
      rw [zn_o hs ha hb hc hd q1 q2]; exact ht
/-- a stamp is a stamp -/
theorem ds_same (l : List UInt8) : dsB l = stB l := by
  unfold dsB stB dxB
  rw [← tm_same, zn_same]
end Go.Proofs.YtiaepihdfbahaaaGreatDoor
namespace Go.Proofs.YtiaepihdfbahaaaGreatDoor
open Go.RowKit

set_option maxRecDepth 100000 in
set_option maxHeartbeats 1000000 in
theorem rptoml_any (s : ByteArray) (w : World) (hs : s.size ≤ 1000000) :
    Calls Tryz.prog 41 #[.string s] w fun e w' => e = .returned (.bool (infB (unS s.data.toList) || stB s.data.toList)) ∧ Below w.heap.size w w' := by
  obtain ⟨b, sv, hb, CU⟩ : ∃ (b : ByteArray) (sv : Int), b.data.toList = unS s.data.toList ∧ Hid (∀ X, Calls Tryz.prog 67 #[.string s] X fun e w' => e = .returned (.tuple #[.string b, .int .u8 sv]) ∧ Below X.heap.size X w') := by
    by_cases h : sgA s.data.toList = true
    · refine ⟨s.extract 1 s.size, ((bt s.data.toList 0 : Nat) : Int), ?_, hid fun X => ?_⟩
      · unfold unS; rw [if_pos h, part_list, List.take_of_length_le (by rw [size_list]; exact Nat.le_refl _)]
      · have := runsigned_any s X hs
        rw [if_pos h] at this; exact this
    · refine ⟨s, 0, ?_, hid fun X => ?_⟩
      · unfold unS; rw [if_neg h]
      · have := runsigned_any s X hs
        rw [if_neg h] at this; exact this
  have CS := hid (fun X => rstamp_any s X hs)
  rw [ds_same] at CS
  have hl : b.toList = unS s.data.toList := by rw [Lib.toList_data, hb]
  have hi : infB (unS s.data.toList) = ((b.toList == [105, 110, 102]) || (b.toList == [110, 97, 110])) := by
    rw [hl]; unfold infB
    rw [Bool.eq_iff_iff, decide_eq_true_iff, Bool.or_eq_true, beq_iff_eq, beq_iff_eq]
  rw [hi]
  generalize stB s.data.toList = st at *
  clear hi hb hl
  cases q1 : (b.toList == [105, 110, 102]) with
  | true =>
    clear CS
    go_enter Tryz.func41, Tryz.ntmps41
    go_wp2_with (go_at_call 67; go_must (refine (CU.out _).mono ?_; rintro e w1 ⟨rfl, hb1⟩))
    go_ret
    exact ⟨rfl, hb1⟩
  | false =>
    cases q2 : (b.toList == [110, 97, 110]) with
    | true =>
      clear CS
      go_enter Tryz.func41, Tryz.ntmps41
      go_wp2_with (go_at_call 67; go_must (refine (CU.out _).mono ?_; rintro e w1 ⟨rfl, hb1⟩))
      go_ret
      exact ⟨rfl, hb1⟩
    | false =>
      go_enter Tryz.func41, Tryz.ntmps41
      go_wp2_with (first
        | (go_at_call 67; go_must (refine (CU.out _).mono ?_; rintro e w1 ⟨rfl, hb1⟩))
        | (go_at_call 68; go_must (refine (CS.out _).mono ?_; rintro e w2 ⟨rfl, hb2⟩)))
      go_ret
      exact ⟨rfl, vonto hb1 hb2⟩
end Go.Proofs.YtiaepihdfbahaaaGreatDoor
