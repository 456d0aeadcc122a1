
import Derived.Test.YtadbeodeiijhdaaGreatDoorFPathFind
import Derived.Test.YtadbeodeiijhdaaGreatDoorFMathFl
/- Plain mathematics of columns: where a path belongs among sorted ones; a path laid among them. -/
namespace Go.Proofs.YtadbeodeiijhdaaGreatDoor

/-- how many at the front are less than a path -/
def posC : List (List PStep) → List PStep → Nat
  | [], _ => 0
  | c :: r, p => if cmpP c p < 0 then posC r p + 1 else 0
theorem posC_le : ∀ (C : List (List PStep)) (p : List PStep), posC C p ≤ C.length
  | [], _ => Nat.zero_le _
  | c :: r, p => by
    have := posC_le r p
    simp only [posC, List.length_cons]
    split <;> omega
theorem posC_lt : ∀ (C : List (List PStep)) (p : List PStep) (i : Nat) (c : List PStep), i < posC C p → C[i]? = some c → cmpP c p < 0
  | [], _, i, _, h, _ => by simp [posC] at h
  | a :: r, p, i, c, h, hc => by
    simp only [posC] at h
    split at h
    · rename_i ha
      cases i with
      | zero => simp at hc; subst hc; exact ha
      | succ i => exact posC_lt r p i c (by omega) (by simpa using hc)
    · omega
theorem posC_ge : ∀ (C : List (List PStep)) (p : List PStep) (c : List PStep), C[posC C p]? = some c → 0 ≤ cmpP c p
  | [], _, _, h => by simp at h
  | a :: r, p, c, h => by
    by_cases ha : cmpP a p < 0
    · simp only [posC, if_pos ha] at h
      exact posC_ge r p c (by simpa using h)
    · simp only [posC, if_neg ha] at h
      simp at h
      subst h; omega
/-- what precedes the path stands ahead of what does not -/
def Mono (C : List (List PStep)) (p : List PStep) : Prop := ∀ (i j : Nat) (a b : List PStep), i ≤ j → C[i]? = some a → C[j]? = some b → cmpP b p < 0 → cmpP a p < 0
theorem posC_is {C : List (List PStep)} {p : List PStep} {k : Nat} (hk : k ≤ C.length) (h1 : ∀ i c, i < k → C[i]? = some c → cmpP c p < 0) (h2 : ∀ c, C[k]? = some c → 0 ≤ cmpP c p) : posC C p = k := by
  rcases Nat.lt_trichotomy (posC C p) k with h | h | h
  · exfalso
    have hl : posC C p < C.length := by omega
    have a1 := posC_ge C p _ (List.getElem?_eq_getElem hl)
    have a2 := h1 _ _ h (List.getElem?_eq_getElem hl)
    omega
  · exact h
  · exfalso
    have hl : k < C.length := by have := posC_le C p; omega
    have a1 := h2 _ (List.getElem?_eq_getElem hl)
    have a2 := posC_lt C p k _ h (List.getElem?_eq_getElem hl)
    omega
def hasC (C : List (List PStep)) (p : List PStep) : Bool := match C[posC C p]? with
  | some c => decide (cmpP c p = 0)
  | none => false
theorem hasC_some {C : List (List PStep)} {p c : List PStep} (h : C[posC C p]? = some c) : hasC C p = decide (cmpP c p = 0) := by unfold hasC; rw [h]
theorem hasC_none {C : List (List PStep)} {p : List PStep} (h : C[posC C p]? = none) : hasC C p = false := by unfold hasC; rw [h]
def putC (C : List (List PStep)) (p : List PStep) : List (List PStep) := if hasC C p = true then C else C.take (posC C p) ++ p :: C.drop (posC C p)
end Go.Proofs.YtadbeodeiijhdaaGreatDoor
/- Plain mathematics of columns: sorted, each once; all paths of all leaves. -/
namespace Go.Proofs.YtadbeodeiijhdaaGreatDoor

theorem cz_val (a b : Int) : cmpZ a b = -1 ∨ cmpZ a b = 0 ∨ cmpZ a b = 1 := by unfold cmpZ; split <;> (try split) <;> simp
theorem cs_val (a b : PStep) : cstep a b = -1 ∨ cstep a b = 0 ∨ cstep a b = 1 := by
  unfold cstep
  split
  · exact cz_val _ _
  · split
    · exact .inl rfl
    · split
      · exact .inr (.inr rfl)
      · exact cb_val _ _
theorem cpV_val : ∀ a b : List PStep, cmpP a b = -1 ∨ cmpP a b = 0 ∨ cmpP a b = 1
  | [], [] => .inr (.inl rfl)
  | [], _ :: _ => .inl rfl
  | _ :: _, [] => .inr (.inr rfl)
  | a :: p, b :: q => by
    have h := cs_val a b
    have ih := cpV_val p q
    simp only [cmpP]
    split
    · exact ih
    · exact h
/-- paths of the form that a tree's have -/
def FrmP (p : List PStep) : Prop := ∀ s ∈ p, Frm s
def Srt (C : List (List PStep)) : Prop := C.Pairwise (fun a b => cmpP a b = -1)
theorem srt_mono {C : List (List PStep)} {p : List PStep} (h : Srt C) (hC : ∀ c ∈ C, FrmP c) (hp : FrmP p) : Mono C p := by
  intro i j a b hij ha hb hlt
  rcases Nat.lt_or_ge i j with h1 | h1
  · obtain ⟨hj, rfl⟩ := List.getElem?_eq_some_iff.1 hb
    obtain ⟨hi, rfl⟩ := List.getElem?_eq_some_iff.1 ha
    have hab := (List.pairwise_iff_getElem.1 h) i j hi hj h1
    have hbp : cmpP C[j] p = -1 := by rcases cpV_val C[j] p with h | h | h <;> omega
    have := cp_trans (hC _ (List.getElem_mem hi)) (hC _ (List.getElem_mem hj)) hp hab hbp
    omega
  · have : i = j := by omega
    subst this
    rw [ha] at hb; cases hb; exact hlt
theorem put_len (C : List (List PStep)) (p : List PStep) : C.length ≤ (putC C p).length ∧ (putC C p).length ≤ C.length + 1 := by
  have := posC_le C p
  unfold putC
  split
  · omega
  · simp; omega
theorem hasC_mem {C : List (List PStep)} {p : List PStep} (hC : ∀ c ∈ C, FrmP c) (hp : FrmP p) (h : hasC C p = true) : p ∈ C := by
  unfold hasC at h
  split at h
  · rename_i c hc
    have hm := List.mem_of_getElem? hc
    rw [decide_eq_true_iff] at h
    rw [← cp_eq (hC c hm) hp h]; exact hm
  · cases h
theorem put_mem {C : List (List PStep)} {p q : List PStep} (hC : ∀ c ∈ C, FrmP c) (hp : FrmP p) : q ∈ putC C p ↔ q ∈ C ∨ q = p := by
  unfold putC
  split
  · rename_i h
    have := hasC_mem hC hp h
    constructor
    · exact .inl
    · rintro (h | rfl)
      · exact h
      · exact this
  · rw [List.mem_append, List.mem_cons]
    have : q ∈ C ↔ q ∈ C.take (posC C p) ∨ q ∈ C.drop (posC C p) := by rw [← List.mem_append, List.take_append_drop]
    rw [this]
    constructor
    · rintro (h | h | h) <;> simp [h]
    · rintro ((h | h) | h) <;> simp [h]
theorem put_frm {C : List (List PStep)} {p : List PStep} (hC : ∀ c ∈ C, FrmP c) (hp : FrmP p) : ∀ c ∈ putC C p, FrmP c := fun c hc => by
  rcases (put_mem hC hp).1 hc with h | rfl
  · exact hC c h
  · exact hp
theorem put_srt {C : List (List PStep)} {p : List PStep} (h : Srt C) (hC : ∀ c ∈ C, FrmP c) (hp : FrmP p) : Srt (putC C p) := by
  unfold putC
  split
  · exact h
  · rename_i hn
    unfold Srt at *
    have hlo : ∀ a ∈ C.take (posC C p), cmpP a p = -1 := fun a ha => by
      obtain ⟨i, hi⟩ := List.getElem?_of_mem ha
      rw [List.getElem?_take] at hi
      split at hi
      · rename_i hlt
        have := posC_lt C p i a hlt hi
        rcases cpV_val a p with h | h | h <;> omega
      · cases hi
    have hhi : ∀ b ∈ C.drop (posC C p), cmpP p b = -1 := fun b hb => by
      obtain ⟨k, hk⟩ : ∃ k, posC C p = k := ⟨_, rfl⟩
      obtain ⟨c, hc⟩ : ∃ c, C[k]? = some c := by
        cases hq : C[k]? with
        | some c => exact ⟨c, rfl⟩
        | none =>
          rw [List.getElem?_eq_none_iff] at hq
          rw [hk, List.drop_eq_nil_of_le hq] at hb; cases hb
      have h1 := posC_ge C p c (by rw [hk]; exact hc)
      have h2 : ¬ cmpP c p = 0 := fun e => hn (by rw [hasC_some (by rw [hk]; exact hc), e]; rfl)
      have h3 : cmpP c p = 1 := by rcases cpV_val c p with h | h | h <;> omega
      have h4 : cmpP p c = -1 := by rw [cp_anti, h3]
      obtain ⟨i, hi⟩ := List.getElem?_of_mem hb
      rw [List.getElem?_drop, hk] at hi
      by_cases e : i = 0
      · subst e; rw [Nat.add_zero, hc] at hi; cases hi; exact h4
      · obtain ⟨hj, rfl⟩ := List.getElem?_eq_some_iff.1 hi
        obtain ⟨hk', rfl⟩ := List.getElem?_eq_some_iff.1 hc
        have h5 := (List.pairwise_iff_getElem.1 h) k (k + i) hk' hj (by omega)
        exact cp_trans hp (hC _ (List.getElem_mem hk')) (hC _ (List.getElem_mem hj)) h4 h5
    rw [List.pairwise_append]
    refine ⟨h.sublist (List.take_sublist _ _), List.pairwise_cons.2 ⟨hhi, h.sublist (List.drop_sublist _ _)⟩, fun a ha b hb => ?_⟩
    rcases List.mem_cons.1 hb with rfl | hb
    · exact hlo a ha
    · exact cp_trans (hC a (List.mem_of_mem_take ha)) hp (hC b (List.mem_of_mem_drop hb)) (hlo a ha) (hhi b hb)
/-- the columns of some leaves, laid among others -/
def colF (l : List (List PStep × VT)) (C : List (List PStep)) : List (List PStep) := l.foldl (fun C e => putC C e.1) C
def colA (X : List (List (List PStep × VT))) : List (List PStep) := colF X.flatten []
theorem colF_app (l m : List (List PStep × VT)) (C : List (List PStep)) : colF (l ++ m) C = colF m (colF l C) := List.foldl_append ..
theorem colF_one (e : List PStep × VT) (C : List (List PStep)) : colF [e] C = putC C e.1 := rfl
theorem colF_len : ∀ (l : List (List PStep × VT)) (C : List (List PStep)), C.length ≤ (colF l C).length
  | [], _ => Nat.le_refl _
  | e :: l, C => by
    have h1 := colF_len l (putC C e.1)
    have h2 := (put_len C e.1).1
    show C.length ≤ (colF l (putC C e.1)).length
    omega
structure Good3 (C : List (List PStep)) : Prop where
  s : Srt C
  f : ∀ c ∈ C, FrmP c
theorem Good3.put {C : List (List PStep)} (h : Good3 C) {p : List PStep} (hp : FrmP p) : Good3 (putC C p) := ⟨put_srt h.s h.f hp, put_frm h.f hp⟩
theorem Good3.nil : Good3 [] := ⟨List.Pairwise.nil, fun c h => by cases h⟩
theorem colF_good : ∀ (l : List (List PStep × VT)) (C : List (List PStep)), Good3 C → (∀ e ∈ l, FrmP e.1) → Good3 (colF l C)
  | [], _, h, _ => h
  | e :: l, C, h, hl => colF_good l (putC C e.1) (h.put (hl e (by simp))) (fun x hx => hl x (by simp [hx]))
theorem colF_mem : ∀ (l : List (List PStep × VT)) (C : List (List PStep)) (q : List PStep), Good3 C → (∀ e ∈ l, FrmP e.1) → (q ∈ colF l C ↔ q ∈ C ∨ ∃ e ∈ l, q = e.1)
  | [], C, q, _, _ => by simp [colF]
  | e :: l, C, q, h, hl => by
    show q ∈ colF l (putC C e.1) ↔ _
    rw [colF_mem l (putC C e.1) q (h.put (hl e (by simp))) (fun x hx => hl x (by simp [hx])), put_mem h.f (hl e (by simp))]
    simp only [List.mem_cons]
    constructor
    · rintro ((h | h) | ⟨x, h1, h2⟩)
      · exact .inl h
      · exact .inr ⟨e, .inl rfl, h⟩
      · exact .inr ⟨x, .inr h1, h2⟩
    · rintro (h | ⟨x, rfl | h1, h2⟩)
      · exact .inl (.inl h)
      · exact .inl (.inr h2)
      · exact .inr ⟨x, h1, h2⟩
theorem take_flat {α : Type} (X : List (List α)) (i : Nat) (l : List α) (h : X[i]? = some l) : (X.take (i + 1)).flatten = (X.take i).flatten ++ l := by
  rw [List.take_add_one, h, List.flatten_append]; simp
end Go.Proofs.YtadbeodeiijhdaaGreatDoor
/- slices.BinarySearchFunc at paths, walked. -/
namespace Go.Proofs.YtadbeodeiijhdaaGreatDoor
open Go.RowKit

/-- a slice of paths -/
def InC (w : World) (C : List (List PStep)) (v : Value) : Prop := ∃ a, SlOf v a C.length ∧ ∀ i p, C[i]? = some p → ∃ u, w.cell? (a.add i) = some u ∧ InP w p u
theorem InC.onto {w w' : World} {C : List (List PStep)} {v : Value} (h : InC w C v) (hb : Below w.heap.size w w') : InC w' C v := by
  obtain ⟨a, h1, h2⟩ := h
  exact ⟨a, h1, fun i p hp => by obtain ⟨u, h3, h4⟩ := h2 i p hp; exact ⟨u, keepCell hb h3, h4.onto hb⟩⟩
set_option maxRecDepth 100000 in
set_option maxHeartbeats 4000000 in
theorem bsearch_any (C : List (List PStep)) (p : List PStep) (cv y : Value) (w : World) (hC : InC w C cv) (hp : InP w p y) (hm : Mono C p) (hl : C.length ≤ 1000000) :
    Calls Tryz.prog 67 #[cv, y, .func (.func 68) #[] #[]] w fun e w' => e = .returned (.tuple #[.int .i64 (posC C p : Nat), .bool (hasC C p)]) ∧ Below w.heap.size w w' := by
  obtain ⟨a, ⟨oa, ca, rfl, ha1, ha2, ha3⟩, hac⟩ := hC
  have hp0 := hp
  obtain ⟨b, ⟨ob, cb, rfl, -, -, -⟩, -⟩ := hp0
  have HA := hid hac
  have HM := hid hm
  have HCM := hid (fun (X : World) (q : List PStep) (u : Value) (hX : Below w.heap.size w X) (hq : InP w q u) => pcmp_any q p u _ X (hq.onto hX) (hp.onto hX))
  obtain ⟨P0, hP0⟩ : ∃ P0, posC C p = P0 := ⟨_, rfl⟩
  obtain ⟨H0, hH0⟩ : ∃ H0, hasC C p = H0 := ⟨_, rfl⟩
  have HP0 := hid hP0
  have HH0 := hid hH0
  rw [hP0, hH0]
  clear hac hm hp hP0 hH0
  go_enter Tryz.func67, Tryz.ntmps67
  go_wp2_with fail
  go_loopw [9, 10] (fun s t wr => ∃ lo hi : Nat, s = .int .i64 lo ∧ t = .int .i64 hi ∧ lo ≤ hi ∧ hi ≤ C.length ∧ Hid ((∀ i c, i < lo → C[i]? = some c → cmpP c p < 0) ∧ (∀ i c, hi ≤ i → C[i]? = some c → 0 ≤ cmpP c p)) ∧ Below w.heap.size w wr) (fun s t _ => (intOf t).toNat - (intOf s).toNat)
  case atStart => exact ⟨0, C.length, rfl, rfl, Nat.zero_le _, Nat.le_refl _, ⟨fun i c h => absurd h (Nat.not_lt_zero _), fun i c h hc => absurd (lt_of_some hc) (by omega)⟩, Below.refl _ _⟩
  case round =>
    obtain ⟨lo, hi, rfl, rfl, hlh, hin, HI, hbw⟩ := hrel
    by_cases hlt : lo < hi
    · obtain ⟨h, hh⟩ : ∃ h, (lo + hi) / 2 = h := ⟨_, rfl⟩
      have hh1 : lo ≤ h := by omega
      have hh2 : h < hi := by omega
      have hhc : ((lo : Int) + (hi : Int)) / 2 = (h : Int) := by omega
      obtain ⟨q, hq⟩ : ∃ q, C[h]? = some q := ⟨C[h], List.getElem?_eq_getElem (by omega)⟩
      obtain rfl := ha3 (by omega)
      obtain ⟨u, hu, hqu⟩ := HA.out h q hq
      have hu' := keepCell hbw hu
      have HCM2 := hid (HCM.out wr q u hbw hqu)
      have HQ := hid hq
      obtain ⟨z, hz⟩ : ∃ z, cmpP q p = z := ⟨_, rfl⟩
      rw [hz] at HCM2
      obtain ⟨aq, ⟨oq, cq, rfl, -⟩, -⟩ := hqu
      have HZ := hid hz
      clear hq hu hz
      by_cases hz0 : z < 0
      · have HI2 := hid (show (∀ i c, i < h + 1 → C[i]? = some c → cmpP c p < 0) ∧ (∀ i c, hi ≤ i → C[i]? = some c → 0 ≤ cmpP c p) from ⟨fun i c h1 h2 => HM.out i h c q (by omega) h2 HQ.out (by rw [HZ.out]; exact hz0), HI.out.2⟩)
        go_wp2_with (go_at_call 68; go_must (refine HCM2.out.mono ?_; rintro e w3 ⟨rfl, hb3⟩))
        go_roundw
        case rel => exact ⟨h + 1, hi, val_int (by omega), rfl, by omega, hin, HI2, vonto hbw hb3⟩
        case measure => simp [intOf]; omega
      · have HI2 := hid (show (∀ i c, i < lo → C[i]? = some c → cmpP c p < 0) ∧ (∀ i c, h ≤ i → C[i]? = some c → 0 ≤ cmpP c p) from ⟨HI.out.1, fun i c h1 h2 => by
        by_cases h3 : cmpP c p < 0
        · have := HM.out h i q c h1 HQ.out h2 h3; rw [HZ.out] at this; omega
        · omega⟩)
        go_wp2_with (go_at_call 68; go_must (refine HCM2.out.mono ?_; rintro e w3 ⟨rfl, hb3⟩))
        go_roundw
        case rel => exact ⟨lo, h, rfl, val_int (by omega), by omega, by omega, HI2, vonto hbw hb3⟩
        case measure => simp [intOf]; omega
    · obtain rfl : hi = lo := by omega
      have hp1 := posC_is hin HI.out.1 (fun c hc => HI.out.2 _ c (Nat.le_refl _) hc)
      have HP := hid hp1
      rw [HP0.out] at hp1
      subst hp1
      by_cases hn : P0 < C.length
      · obtain ⟨q, hq⟩ : ∃ q, C[P0]? = some q := ⟨C[P0], List.getElem?_eq_getElem hn⟩
        obtain rfl := ha3 (by omega)
        obtain ⟨u, hu, hqu⟩ := HA.out P0 q hq
        have hu' := keepCell hbw hu
        have HCM2 := hid (HCM.out wr q u hbw hqu)
        have hh1 : H0 = decide (cmpP q p = 0) := HH0.out.symm.trans (hasC_some (by rw [HP.out]; exact hq))
        obtain ⟨z, hz⟩ : ∃ z, cmpP q p = z := ⟨_, rfl⟩
        rw [hz] at HCM2 hh1
        subst hh1
        obtain ⟨aq, ⟨oq, cq, rfl, -⟩, -⟩ := hqu
        clear hq hu hz
        by_cases hz0 : z = 0
        · have tz : (z == 0) = true := by simpa using hz0
          go_wp2_with (go_at_call 68; go_must (refine HCM2.out.mono ?_; rintro e w3 ⟨rfl, hb3⟩))
          go_ret2
          exact ⟨by simp [hz0], vonto hbw hb3⟩
        · have tz : (z == 0) = false := by simpa using hz0
          go_wp2_with (go_at_call 68; go_must (refine HCM2.out.mono ?_; rintro e w3 ⟨rfl, hb3⟩))
          go_ret2
          exact ⟨by simp [hz0], vonto hbw hb3⟩
      · have hh1 : H0 = false := HH0.out.symm.trans (hasC_none (by rw [HP.out]; exact List.getElem?_eq_none (by omega)))
        subst hh1
        go_wp2_with fail
        go_ret2
        exact ⟨rfl, hbw⟩
end Go.Proofs.YtadbeodeiijhdaaGreatDoor
