/- Plain mathematics: the order of numbers' texts is an order; a number's one form is one. -/
import Derived.Test.YtnabdepplpaabaaDoorMathDec2
namespace Go.Proofs.YtnabdepplpaabaaDoor
open Go.RowKit

theorem ltB_nil (d : List UInt8) : ltB d [] = false := by cases d <;> rfl
theorem ltB_irr : ∀ d : List UInt8, ltB d d = false
  | [] => rfl
  | a :: d => by
    have := ltB_irr d
    unfold ltB at this ⊢
    simp [Op.bytesLess, this]
theorem ltB_cons (a b : UInt8) (d e : List UInt8) : ltB (a :: d) (b :: e) = (decide (a < b) || (a == b && ltB d e)) := rfl
theorem u8_tri (a b : UInt8) : a < b ∨ a = b ∨ b < a := by
  have h1 : a < b ↔ a.toNat < b.toNat := Iff.rfl
  have h2 : b < a ↔ b.toNat < a.toNat := Iff.rfl
  have h3 : a = b ↔ a.toNat = b.toNat := UInt8.toNat_inj.symm
  rw [h1, h2, h3]; omega
theorem u8_irr (a : UInt8) : ¬ a < a := by intro h; exact absurd (show a.toNat < a.toNat from h) (by omega)
theorem u8_asym (a b : UInt8) (h : a < b) : ¬ b < a ∧ ¬ a = b := by
  have h1 : a.toNat < b.toNat := h
  exact ⟨fun g => by have : b.toNat < a.toNat := g; omega, fun g => by rw [g] at h1; omega⟩
/-- just one of: below, the same, above -/
theorem ltB_tri : ∀ d e : List UInt8, (ltB d e = true ∧ ltB e d = false ∧ ¬ d = e) ∨ (d = e) ∨ (ltB d e = false ∧ ltB e d = true ∧ ¬ d = e)
  | [], [] => Or.inr (Or.inl rfl)
  | [], _ :: _ => Or.inl ⟨rfl, rfl, by simp⟩
  | _ :: _, [] => Or.inr (Or.inr ⟨rfl, rfl, by simp⟩)
  | a :: d, b :: e => by
    rw [ltB_cons, ltB_cons]
    rcases u8_tri a b with h | h | h
    · have g := u8_asym a b h
      left; refine ⟨by simp [h], by simp [g.1]; intro hc; exact absurd hc.symm g.2, by simp [g.2]⟩
    · subst h
      rcases ltB_tri d e with ⟨h1, h2, h3⟩ | h1 | ⟨h1, h2, h3⟩
      · left; exact ⟨by simp [h1], by simp [h2], by simp [h3]⟩
      · right; left; rw [h1]
      · right; right; exact ⟨by simp [h1], by simp [h2], by simp [h3]⟩
    · have g := u8_asym b a h
      right; right; refine ⟨by simp [g.1]; intro hc; exact absurd hc.symm g.2, by simp [h], by simp; intro hc; exact absurd hc.symm g.2⟩
theorem ltB_trans : ∀ d e f : List UInt8, ltB d e = true → ltB e f = true → ltB d f = true
  | _, [], _, h, _ => by rw [ltB_nil] at h; cases h
  | _, _ :: _, [], _, h => by rw [ltB_nil] at h; cases h
  | [], _ :: _, _ :: _, _, _ => rfl
  | a :: d, b :: e, c :: f, h, g => by
    rw [ltB_cons] at h g ⊢
    simp only [Bool.or_eq_true, decide_eq_true_eq, Bool.and_eq_true, beq_iff_eq] at h g ⊢
    rcases h with h | ⟨rfl, h⟩
    · rcases g with g | ⟨rfl, g⟩
      · left; have h1 : a.toNat < b.toNat := h; have h2 : b.toNat < c.toNat := g; show a.toNat < c.toNat; omega
      · left; exact h
    · rcases g with g | ⟨rfl, g⟩
      · left; exact g
      · right; exact ⟨rfl, ltB_trans d e f h g⟩
/-- just one of: less, the same, more -/
theorem less_tri (d : List UInt8) (n : Int) (e : List UInt8) (m : Int) : (lessB d n e m = true ∧ lessB e m d n = false) ∨ (d = e ∧ n = m) ∨ (lessB d n e m = false ∧ lessB e m d n = true) := by
  unfold lessB
  rcases Int.lt_trichotomy n m with h | h | h
  · left; exact ⟨by simp [h], by simp; omega⟩
  · subst h
    rcases ltB_tri d e with ⟨h1, h2, h3⟩ | h1 | ⟨h1, h2, h3⟩
    · left; exact ⟨by simp [h1], by simp [h2]⟩
    · right; left; exact ⟨h1, rfl⟩
    · right; right; exact ⟨by simp [h1], by simp [h2]⟩
  · right; right; exact ⟨by simp; omega, by simp [h]⟩
theorem less_trans (d : List UInt8) (n : Int) (e : List UInt8) (m : Int) (f : List UInt8) (k : Int) (h : lessB d n e m = true) (g : lessB e m f k = true) : lessB d n f k = true := by
  unfold lessB at h g ⊢
  simp only [Bool.or_eq_true, decide_eq_true_eq, Bool.and_eq_true] at h g ⊢
  rcases h with h | ⟨rfl, h⟩
  · rcases g with g | ⟨rfl, g⟩ <;> (left; omega)
  · rcases g with g | ⟨rfl, g⟩
    · left; exact g
    · right; exact ⟨rfl, ltB_trans _ _ _ h g⟩
/-- nought is one -/
def Tri (p : Bool) (d : List UInt8) (n : Int) : Prop := d = [] → p = false ∧ n = 0
theorem tri_of (l : List UInt8) : Tri (scN l) (scD l) (scT l) := fun h => ⟨by unfold scN; rw [if_pos h], by unfold scT; rw [if_pos h]⟩
theorem sg_cases (p : Bool) (d : List UInt8) : (d = [] ∧ sgI p d = 0) ∨ (¬ d = [] ∧ p = true ∧ sgI p d = -1) ∨ (¬ d = [] ∧ p = false ∧ sgI p d = 1) := by
  unfold sgI
  by_cases h : d = []
  · left; exact ⟨h, by rw [if_pos h]⟩
  · right; rw [if_neg h]; cases p
    · right; exact ⟨h, rfl, rfl⟩
    · left; exact ⟨h, rfl, rfl⟩
/-- what the order of two says, case by case -/
theorem tcmp_cases {p : Bool} {d : List UInt8} {n : Int} {q : Bool} {e : List UInt8} {m : Int} (h : Tri p d n) (g : Tri q e m) :
    (p = q ∧ d = e ∧ n = m ∧ tcmp p d n q e m = 0) ∨
    (¬ (d = e ∧ p = q ∧ n = m) ∧ tcmp p d n q e m = -1 ∧ (sgI p d < sgI q e ∨ (sgI p d = 1 ∧ sgI q e = 1 ∧ lessB d n e m = true) ∨ (sgI p d = -1 ∧ sgI q e = -1 ∧ lessB e m d n = true))) ∨
    (¬ (d = e ∧ p = q ∧ n = m) ∧ tcmp p d n q e m = 1 ∧ (sgI q e < sgI p d ∨ (sgI p d = 1 ∧ sgI q e = 1 ∧ lessB e m d n = true) ∨ (sgI p d = -1 ∧ sgI q e = -1 ∧ lessB d n e m = true))) := by
  by_cases hall : d = e ∧ p = q ∧ n = m
  · left; exact ⟨hall.2.1, hall.1, hall.2.2, by unfold tcmp; rw [if_pos hall]⟩
  · right
    by_cases hs : sgI p d = sgI q e
    · have hpq : p = q ∧ ¬ sgI p d = 0 := by
        rcases sg_cases p d with ⟨a1, a2⟩ | ⟨a1, a2, a3⟩ | ⟨a1, a2, a3⟩ <;> rcases sg_cases q e with ⟨b1, b2⟩ | ⟨b1, b2, b3⟩ | ⟨b1, b2, b3⟩
        · exfalso; apply hall; rw [a1, b1, (h a1).1, (h a1).2, (g b1).1, (g b1).2]; exact ⟨rfl, rfl, rfl⟩
        all_goals first
          | (exfalso; omega)
          | exact ⟨by rw [a2, b2], by omega⟩
      have hne : ¬ (d = e ∧ n = m) := fun hc => hall ⟨hc.1, hpq.1, hc.2⟩
      have ht : tcmp p d n q e m = if lessB d n e m = decide (0 < sgI p d) then -1 else 1 := by unfold tcmp; rw [if_neg hall, if_pos hs]
      rcases less_tri d n e m with ⟨l1, l2⟩ | l | ⟨l1, l2⟩
      · rcases sg_cases p d with ⟨a1, a2⟩ | ⟨a1, a2, a3⟩ | ⟨a1, a2, a3⟩
        · exact absurd a2 hpq.2
        · right; rw [ht, l1, a3]; exact ⟨hall, rfl, Or.inr (Or.inr ⟨rfl, by omega, rfl⟩)⟩
        · left; rw [ht, l1, a3]; exact ⟨hall, rfl, Or.inr (Or.inl ⟨rfl, by omega, rfl⟩)⟩
      · exact absurd l hne
      · rcases sg_cases p d with ⟨a1, a2⟩ | ⟨a1, a2, a3⟩ | ⟨a1, a2, a3⟩
        · exact absurd a2 hpq.2
        · left; rw [ht, l1, a3]; exact ⟨hall, rfl, Or.inr (Or.inr ⟨rfl, by omega, l2⟩)⟩
        · right; rw [ht, l1, a3]; exact ⟨hall, rfl, Or.inr (Or.inl ⟨rfl, by omega, l2⟩)⟩
    · by_cases hl : sgI p d < sgI q e
      · left; exact ⟨hall, by unfold tcmp; rw [if_neg hall, if_neg hs, if_pos hl], Or.inl hl⟩
      · right; exact ⟨hall, by unfold tcmp; rw [if_neg hall, if_neg hs, if_neg hl], Or.inl (by omega)⟩
theorem less_asym (d : List UInt8) (n : Int) (e : List UInt8) (m : Int) (h : lessB d n e m = true) (g : lessB e m d n = true) : False := by
  rcases less_tri d n e m with ⟨_, l⟩ | ⟨rfl, rfl⟩ | ⟨l, _⟩
  · rw [g] at l; cases l
  · unfold lessB at h; simp [ltB_irr] at h
  · rw [h] at l; cases l
theorem tcmp_turn {p : Bool} {d : List UInt8} {n : Int} {q : Bool} {e : List UInt8} {m : Int} (h : Tri p d n) (g : Tri q e m) : tcmp q e m p d n = -tcmp p d n q e m := by
  rcases tcmp_cases h g with ⟨a1, a2, a3, a4⟩ | ⟨a1, a2, a3⟩ | ⟨a1, a2, a3⟩ <;> rcases tcmp_cases g h with ⟨b1, b2, b3, b4⟩ | ⟨b1, b2, b3⟩ | ⟨b1, b2, b3⟩
  · rw [a4, b4]; rfl
  · exact absurd ⟨a2.symm, a1.symm, a3.symm⟩ b1
  · exact absurd ⟨a2.symm, a1.symm, a3.symm⟩ b1
  · exact absurd ⟨b2.symm, b1.symm, b3.symm⟩ a1
  · exfalso
    rcases a3 with a | ⟨x1, x2, a⟩ | ⟨x1, x2, a⟩ <;> rcases b3 with b | ⟨y1, y2, b⟩ | ⟨y1, y2, b⟩ <;> first | omega | exact less_asym _ _ _ _ a b
  · rw [a2, b2]; rfl
  · exact absurd ⟨b2.symm, b1.symm, b3.symm⟩ a1
  · rw [a2, b2]
  · exfalso
    rcases a3 with a | ⟨x1, x2, a⟩ | ⟨x1, x2, a⟩ <;> rcases b3 with b | ⟨y1, y2, b⟩ | ⟨y1, y2, b⟩ <;> first | omega | exact less_asym _ _ _ _ a b
theorem tcmp_low {p : Bool} {d : List UInt8} {n : Int} {q : Bool} {e : List UInt8} {m : Int} {r : Bool} {f : List UInt8} {k : Int} (h : Tri p d n) (g : Tri q e m) (i : Tri r f k)
    (h1 : tcmp p d n q e m = -1) (h2 : tcmp q e m r f k = -1) : tcmp p d n r f k = -1 := by
  rcases tcmp_cases h g with ⟨_, _, _, a4⟩ | ⟨_, a2, a3⟩ | ⟨_, a2, _⟩
  · omega
  · rcases tcmp_cases g i with ⟨_, _, _, b4⟩ | ⟨_, b2, b3⟩ | ⟨_, b2, _⟩
    · omega
    · rcases tcmp_cases h i with ⟨c1, c2, c3, c4⟩ | ⟨_, c2, _⟩ | ⟨_, c2, c3⟩
      · exfalso; subst c1 c2 c3
        rcases a3 with a | ⟨x1, x2, a⟩ | ⟨x1, x2, a⟩ <;> rcases b3 with b | ⟨y1, y2, b⟩ | ⟨y1, y2, b⟩ <;> first | omega | exact less_asym _ _ _ _ a b
      · exact c2
      · exfalso
        rcases a3 with a | ⟨x1, x2, a⟩ | ⟨x1, x2, a⟩ <;> rcases b3 with b | ⟨y1, y2, b⟩ | ⟨y1, y2, b⟩ <;> rcases c3 with c | ⟨z1, z2, c⟩ | ⟨z1, z2, c⟩ <;> first | omega | exact less_asym _ _ _ _ (less_trans _ _ _ _ _ _ a b) c | exact less_asym _ _ _ _ (less_trans _ _ _ _ _ _ b a) c
    · omega
  · omega
/-- the order of numbers, for texts that are numbers -/
theorem cmp_tri (a b : List UInt8) (ha : numB a = true) (hb : numB b = true) : cmpI a b = tcmp (scN a) (scD a) (scT a) (scN b) (scD b) (scT b) := by unfold cmpI; rw [ha, hb]; rfl
theorem cmp_turn (a b : List UInt8) (ha : numB a = true) (hb : numB b = true) : cmpI b a = -cmpI a b := by
  rw [cmp_tri a b ha hb, cmp_tri b a hb ha]; exact tcmp_turn (tri_of a) (tri_of b)
theorem cmp_vals (a b : List UInt8) (ha : numB a = true) (hb : numB b = true) : cmpI a b = 0 ∨ cmpI a b = -1 ∨ cmpI a b = 1 := by
  rw [cmp_tri a b ha hb]
  rcases tcmp_cases (tri_of a) (tri_of b) with ⟨_, _, _, h⟩ | ⟨_, h, _⟩ | ⟨_, h, _⟩
  · exact Or.inl h
  · exact Or.inr (Or.inl h)
  · exact Or.inr (Or.inr h)
theorem cmp_zero (a b : List UInt8) (ha : numB a = true) (hb : numB b = true) : cmpI a b = 0 ↔ (scN a = scN b ∧ scD a = scD b ∧ scT a = scT b) := by
  rw [cmp_tri a b ha hb]
  rcases tcmp_cases (tri_of a) (tri_of b) with ⟨h1, h2, h3, h⟩ | ⟨h1, h, _⟩ | ⟨h1, h, _⟩
  · exact ⟨fun _ => ⟨h1, h2, h3⟩, fun _ => h⟩
  · exact ⟨fun g => by omega, fun g => absurd ⟨g.2.1, g.1, g.2.2⟩ h1⟩
  · exact ⟨fun g => by omega, fun g => absurd ⟨g.2.1, g.1, g.2.2⟩ h1⟩
theorem cmp_trans (a b c : List UInt8) (ha : numB a = true) (hb : numB b = true) (hc : numB c = true) (h : cmpI a b = cmpI b c) : cmpI a c = cmpI a b := by
  rcases cmp_vals a b ha hb with h0 | h0 | h0
  · have h1 := (cmp_zero a b ha hb).1 h0
    have h2 := (cmp_zero b c hb hc).1 (h ▸ h0)
    rw [h0]; exact (cmp_zero a c ha hc).2 ⟨h1.1.trans h2.1, h1.2.1.trans h2.2.1, h1.2.2.trans h2.2.2⟩
  · rw [h0]
    have h2 : cmpI b c = -1 := h ▸ h0
    rw [cmp_tri _ _ ha hb] at h0
    rw [cmp_tri _ _ hb hc] at h2
    rw [cmp_tri _ _ ha hc]
    exact tcmp_low (tri_of a) (tri_of b) (tri_of c) h0 h2
  · have h2 : cmpI c b = -1 := by rw [cmp_turn b c hb hc, ← h, h0]
    have h3 : cmpI b a = -1 := by rw [cmp_turn a b ha hb, h0]
    have h4 : cmpI c a = -1 := by
      rw [cmp_tri _ _ hc hb] at h2
      rw [cmp_tri _ _ hb ha] at h3
      rw [cmp_tri _ _ hc ha]
      exact tcmp_low (tri_of c) (tri_of b) (tri_of a) h2 h3
    rw [h0, cmp_turn c a hc ha, h4]; rfl
end Go.Proofs.YtnabdepplpaabaaDoor
