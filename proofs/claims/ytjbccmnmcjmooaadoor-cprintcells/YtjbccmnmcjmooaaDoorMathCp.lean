import Derived.Test.YtjbccmnmcjmooaaDoorMathCq
import Derived.Test.YtjbccmnmcjmooaaDoorMathPath
import Derived.Lib.Join
import Derived.Lib.ValidLaws
/- Rows written in plain mathematics, and read back. -/
namespace Go.Proofs.YtjbccmnmcjmooaaDoor
open Go

/-- a field, written -/
def fldB (s : List UInt8) (al : Bool) : List UInt8 := if (s.any stopB || (s.isEmpty && al)) = true then 34 :: (dq s ++ [34]) else s
/-- a row, written -/
def rowB (fs : List (List UInt8)) : List UInt8 := Lib.join (fs.map (fldB · (decide (fs.length = 1)))) [44] ++ [13, 10]
/-- rows, written -/
def prnB (rs : List (List (List UInt8))) : List UInt8 := rs.flatMap rowB
theorem ra_dq (s : List UInt8) : rA [34] [34, 34] s = dq s := by
  rw [ra_one]
  induction s with
  | nil => rfl
  | cons b l ih =>
    rw [List.flatMap_cons, ih]
    by_cases h : b = 34
    · simp [dq, h]
    · simp [dq, h]
theorem any_stop (s : List UInt8) : Lib.containsAny s [34, 44, 13, 10] = s.any stopB := by
  unfold Lib.containsAny
  induction s with
  | nil => rfl
  | cons b l ih =>
    have hge := Lib.indexAny_ge [34, 44, 13, 10] l
    rw [List.any_cons, ← ih, Lib.indexAny]
    have hc : ([34, 44, 13, 10] : List UInt8).contains b = stopB b := by
      unfold stopB
      rw [Bool.eq_iff_iff, decide_eq_true_iff]
      simp only [List.contains_iff_mem, List.mem_cons, List.not_mem_nil, or_false]
      constructor
      · rintro (h | h | h | h) <;> simp [h]
      · rintro (h | h | h | h) <;> simp [h]
    rw [hc]
    cases stopB b with
    | true => simp
    | false =>
      simp only [Bool.false_eq_true, if_false, Bool.false_or]
      split
      · rename_i h; rw [beq_iff_eq.1 h]
      · rename_i h
        have : Lib.indexAny l [34, 44, 13, 10] ≠ -1 := fun e => h (beq_iff_eq.2 e)
        rw [decide_eq_decide]; omega
theorem fldP_q (s r : List UInt8) (h34 : r.head? ≠ some 34) (h : r.head? = some 44 ∨ endB r = true) (hl : s.length ≤ 4096) : fldP (34 :: (dq s ++ 34 :: r)) = .ok s r := by
  unfold fldP fld0
  rw [if_pos (by simp)]
  simp only [List.tail_cons]
  rw [qt_dq s [] r h34 h]
  simp only [fldLim, List.nil_append]
  rw [if_neg (by omega)]
/-- what may stand behind a field that was written -/
def tailC (r : List UInt8) : Prop := (∃ q, r = 44 :: q) ∨ ∃ q, r = 13 :: 10 :: q
theorem fldP_fld (s r : List UInt8) (al : Bool) (hr : tailC r) (hl : s.length ≤ 4096) : fldP (fldB s al ++ r) = .ok s r := by
  unfold fldB
  split
  · rw [show (34 :: (dq s ++ [34])) ++ r = 34 :: (dq s ++ 34 :: r) by simp]
    refine fldP_q s r ?_ ?_ hl
    · rcases hr with ⟨q, rfl⟩ | ⟨q, rfl⟩ <;> simp
    · rcases hr with ⟨q, rfl⟩ | ⟨q, rfl⟩
      · left; simp
      · right; simp [endB, endN]
  · rename_i h
    have hs : ∀ c ∈ s, stopB c = false := fun c hc => by
      cases hx : stopB c with
      | false => rfl
      | true => exact absurd (by rw [List.any_eq_true.2 ⟨c, hc, hx⟩]; rfl) h
    refine fldP_plain s r hs ?_ hl
    right
    rcases hr with ⟨q, rfl⟩ | ⟨q, rfl⟩
    · exact ⟨44, q, rfl, rfl, by decide⟩
    · exact ⟨13, 10 :: q, rfl, rfl, by decide⟩
theorem join_two (x y : List UInt8) (r : List (List UInt8)) (sep : List UInt8) : Lib.join (x :: y :: r) sep = x ++ (sep ++ Lib.join (y :: r) sep) := by
  rw [Lib.join_cons, Lib.join_cons]
  simp [Lib.joinTail]
theorem crwS_row (al : Bool) (X : List UInt8) : ∀ (gs : List (List UInt8)) (s : List UInt8) (g : Nat) (fs : List (List UInt8)), fs.length + gs.length < 64 → (∀ x ∈ s :: gs, x.length ≤ 4096) → gs.length < g → crwS fldP g fs (Lib.join ((s :: gs).map (fldB · al)) [44] ++ 13 :: 10 :: X) = .ok (fs ++ s :: gs) X
  | [], s, g, fs, h1, h2, h3 => by
    obtain ⟨g, rfl⟩ : ∃ k, g = k + 1 := ⟨g - 1, by simp at h3; omega⟩
    simp only [List.length_nil, Nat.add_zero] at h1
    unfold crwS
    rw [if_neg (by omega)]
    simp only [List.map_cons, List.map_nil, Lib.join_one]
    rw [fldP_fld s _ al (Or.inr ⟨X, rfl⟩) (h2 s (by simp))]
    simp only
    rw [crwL_s, if_neg (by simp), if_pos (by simp [endB, endN])]
    simp [endN]
  | t :: gs, s, g, fs, h1, h2, h3 => by
    obtain ⟨g, rfl⟩ : ∃ k, g = k + 1 := ⟨g - 1, by simp at h3; omega⟩
    simp only [List.length_cons] at h1 h3
    unfold crwS
    rw [if_neg (by omega)]
    simp only [List.map_cons]
    rw [join_two, List.append_assoc, List.append_assoc]
    simp only [List.cons_append, List.nil_append]
    rw [fldP_fld s _ al (Or.inl ⟨_, rfl⟩) (h2 s (by simp))]
    simp only
    rw [crwL_s, if_pos (by simp)]
    have ih := crwS_row al X gs t g (fs ++ [s]) (by simp; omega) (fun x hx => h2 x (List.mem_cons_of_mem _ hx)) (by omega)
    simp only [List.map_cons] at ih
    simp only [List.tail_cons]
    rw [ih]; simp
theorem fldB_len (s : List UInt8) (al : Bool) : (fldB s al).length ≤ 2 * s.length + 2 := by
  unfold fldB
  have := dq_len s
  split
  · simp; omega
  · omega
theorem row_len2 (fs : List (List UInt8)) : 2 ≤ (rowB fs).length := by unfold rowB; simp
/-- how many fields a row of so many bytes has at most -/
theorem join_ge : ∀ (xs : List (List UInt8)), xs.length ≤ (Lib.join xs [44]).length + 1
  | [] => by simp
  | [x] => by simp
  | x :: y :: r => by
    have ih := join_ge (y :: r)
    rw [join_two]
    simp only [List.length_append, List.length_cons, List.length_nil] at ih ⊢; omega
theorem crwF_row (fs : List (List UInt8)) (X : List UInt8) (h1 : 1 ≤ fs.length) (h64 : fs.length ≤ 64) (hl : ∀ x ∈ fs, x.length ≤ 4096) : crwF fldP (rowB fs ++ X) = .ok fs X := by
  rw [crwF_s fldP fldP_suf ((rowB fs ++ X).length + fs.length + 1) _ (by omega)]
  rcases fs with _ | ⟨s, gs⟩
  · simp at h1
  have := crwS_row (decide ((s :: gs).length = 1)) X gs s ((rowB (s :: gs) ++ X).length + (s :: gs).length + 1) [] (by simp at h64 ⊢; omega) hl (by simp; omega)
  generalize (rowB (s :: gs) ++ X).length + (s :: gs).length + 1 = G at this ⊢
  unfold rowB
  rw [List.append_assoc]
  exact this
theorem prn_cons (m : List (List UInt8)) (ms : List (List (List UInt8))) : prnB (m :: ms) = rowB m ++ prnB ms := by simp [prnB]
theorem crdL_prn (n : Nat) (h1 : 1 ≤ n) (h64 : n ≤ 64) : ∀ (ms : List (List (List UInt8))) (g : Nat) (rs : List (List (List UInt8))), (∀ m ∈ rs, m.length = n) → (∀ m ∈ ms, m.length = n ∧ ∀ x ∈ m, x.length ≤ 4096) → rs.length + ms.length ≤ 513 → ms.length < g → crdL fldP g rs (prnB ms) = .ok (rs ++ ms)
  | [], g, rs, _, _, _, h => by
    obtain ⟨g, rfl⟩ : ∃ k, g = k + 1 := ⟨g - 1, by simp at h; omega⟩
    rw [crdL_step, if_pos (by rfl)]; simp
  | m :: ms, g, rs, hr, hm, hl, h => by
    obtain ⟨g, rfl⟩ : ∃ k, g = k + 1 := ⟨g - 1, by simp at h; omega⟩
    simp only [List.length_cons] at hl h
    have h2 := row_len2 m
    obtain ⟨e1, e2⟩ := hm m (by simp)
    rw [crdL_step, prn_cons, if_neg (by intro e; have := congrArg List.length e; simp at this; have := this.1; rw [this] at h2; simp at h2), if_neg (by omega), crwF_row m _ (by omega) (by omega) e2]
    simp only
    rw [if_neg (by
      rintro ⟨a, b⟩
      rcases rs with _ | ⟨r0, rs⟩
      · simp at a
      · simp only [List.headD_cons] at b
        exact b (by rw [e1, hr r0 (by simp)]))]
    rw [crdL_prn n h1 h64 ms g (rs ++ [m]) (fun x hx => by
      rcases List.mem_append.1 hx with hx | hx
      · exact hr x hx
      · rw [List.mem_singleton.1 hx]; exact e1) (fun x hx => hm x (List.mem_cons_of_mem _ hx)) (by simp; omega) (by omega)]
    simp
theorem vl_fld (s r : List UInt8) (al : Bool) (hr : ∀ c ∈ r.head?, c.toNat < 128) : VL (fldB s al ++ r) ↔ VL s ∧ VL r := by
  unfold fldB
  split
  · rw [show (34 :: (dq s ++ [34])) ++ r = 34 :: (dq s ++ 34 :: r) by simp, vlb_ascii (by decide), vl_join (by simp), vl_dq _ s (Nat.le_refl _), vlb_ascii (by decide)]
  · exact vl_join hr
theorem vl_jn (al : Bool) (X : List UInt8) : ∀ (gs : List (List UInt8)) (s : List UInt8), VL (Lib.join ((s :: gs).map (fldB · al)) [44] ++ 13 :: 10 :: X) ↔ (∀ x ∈ s :: gs, VL x) ∧ VL X
  | [], s => by
    simp only [List.map_cons, List.map_nil, Lib.join_one]
    rw [vl_fld s _ al (by simp), vlb_ascii (by decide), vlb_ascii (by decide)]
    simp
  | t :: gs, s => by
    have ih := vl_jn al X gs t
    simp only [List.map_cons] at ih ⊢
    rw [join_two, List.append_assoc, List.append_assoc, vl_fld s _ al (by simp)]
    simp only [List.cons_append, List.nil_append]
    rw [vlb_ascii (by decide), ih]
    simp only [List.mem_cons, forall_eq_or_imp, and_assoc]
theorem vl_row (fs : List (List UInt8)) (X : List UInt8) : VL (rowB fs ++ X) ↔ (∀ x ∈ fs, VL x) ∧ VL X := by
  unfold rowB
  rcases fs with _ | ⟨s, gs⟩
  · simp only [List.map_nil, Lib.join_nil, List.nil_append, List.cons_append]
    rw [vlb_ascii (by decide), vlb_ascii (by decide)]; simp
  · rw [List.append_assoc]
    exact vl_jn _ X gs s
theorem vl_prn : ∀ ms : List (List (List UInt8)), VL (prnB ms) ↔ ∀ m ∈ ms, ∀ x ∈ m, VL x
  | [] => by simp [prnB, vl_nil]
  | m :: ms => by
    rw [prn_cons, vl_row, vl_prn ms]
    simp only [List.mem_cons, forall_eq_or_imp]
/-- is a field one that may be? -/
def pStrOk (x : List UInt8) : Bool := decide (x.length ≤ 4096) && Lib.validD x
/-- is a row one that may be, beside rows of so many fields? -/
def pRowOk (n : Nat) (m : List (List UInt8)) : Bool := decide (m.length = n) && (decide (1 ≤ m.length) && decide (m.length ≤ 64) && m.all pStrOk)
def mayB (ms : List (List (List UInt8))) : Bool := decide (ms.length ≤ 513) && ms.all (pRowOk (ms.headD []).length) && decide ((prnB ms).length ≤ 65536)
theorem valid_vl : ∀ (n : Nat) (l : List UInt8), l.length ≤ n → (Lib.validD l = true ↔ VL l)
  | n, [], _ => by simp [Lib.validD_nil, vl_nil]
  | 0, a :: t, h => by simp at h
  | n + 1, a :: t, h => by
    rw [Lib.validD_step _ (by simp), vl_step (by simp), tk_dec _ (by simp)]
    by_cases h0 : tkN (a :: t) = 0
    · rw [if_pos h0, if_pos ⟨rfl, rfl⟩, h0]; simp
    · rw [if_neg h0, if_neg (by
        rintro ⟨e1, e2⟩
        by_cases ha : a.toNat < 128
        · have := (tk_n1 (t := t) ha).2
          simp only at e1; omega
        · have := (tkw_wide (t := t) (by omega) h0).1
          simp only at e2; omega), valid_vl n _ (by rw [List.length_drop]; simp only [List.length_cons] at h ⊢; omega)]
      exact ⟨fun x => ⟨h0, x⟩, fun x => x.2⟩
theorem valid_is (l : List UInt8) : Lib.validD l = true ↔ VL l := valid_vl l.length l (Nat.le_refl _)
theorem prn_rows : ∀ ms : List (List (List UInt8)), 2 * ms.length ≤ (prnB ms).length
  | [] => by simp
  | m :: ms => by
    have ih := prn_rows ms
    have := row_len2 m
    rw [prn_cons, List.length_append, List.length_cons]; omega
/-- rows that may be are read back -/
theorem csv_back (ms : List (List (List UInt8))) (h : mayB ms = true) : csvR fldP (prnB ms) = .ok ms := by
  unfold mayB at h
  rw [Bool.and_eq_true, Bool.and_eq_true, decide_eq_true_iff, decide_eq_true_iff, List.all_eq_true] at h
  obtain ⟨⟨h1, h2⟩, h3⟩ := h
  have hrow : ∀ m ∈ ms, m.length = (ms.headD []).length ∧ (1 ≤ m.length ∧ m.length ≤ 64) ∧ ∀ x ∈ m, x.length ≤ 4096 ∧ VL x := fun m hm => by
    have := h2 m hm
    unfold pRowOk at this
    rw [Bool.and_eq_true, Bool.and_eq_true, Bool.and_eq_true, decide_eq_true_iff, decide_eq_true_iff, decide_eq_true_iff, List.all_eq_true] at this
    refine ⟨this.1, this.2.1, fun x hx => ?_⟩
    have := this.2.2 x hx
    unfold pStrOk at this
    rw [Bool.and_eq_true, decide_eq_true_iff, valid_is] at this
    exact this
  have hv : VL (prnB ms) := (vl_prn ms).2 fun m hm x hx => ((hrow m hm).2.2 x hx).2
  unfold csvR
  rw [if_neg (by omega), if_pos (show pos (prnB ms) (vlk (prnB ms)) = (prnB ms).length from hv)]
  have hg := prn_rows ms
  rcases ms with _ | ⟨m, ms⟩
  · rfl
  · have hm := hrow m (by simp)
    have := crdL_prn m.length hm.2.1.1 hm.2.1.2 (m :: ms) ((prnB (m :: ms)).length + 1) [] (by simp) (fun x hx => ⟨(hrow x hx).1, fun y hy => ((hrow x hx).2.2 y hy).1⟩) (by simpa using h1) (by omega)
    simpa using this
/-- what needs no quotes has none -/
theorem fldB_self (s : List UInt8) (al : Bool) : fldB s al = s ↔ (s.any stopB || (s.isEmpty && al)) = false := by
  unfold fldB
  have hge : ∀ s : List UInt8, s.length ≤ (dq s).length := fun s => by
    induction s with
    | nil => simp
    | cons b l ih => unfold dq; split <;> simp <;> omega
  split
  · rename_i h
    rw [h]
    constructor
    · intro e
      have := congrArg List.length e
      have := hge s
      simp at *; omega
    · simp
  · rename_i h
    simp only [true_iff]
    exact Bool.eq_false_iff.2 h
end Go.Proofs.YtjbccmnmcjmooaaDoor
