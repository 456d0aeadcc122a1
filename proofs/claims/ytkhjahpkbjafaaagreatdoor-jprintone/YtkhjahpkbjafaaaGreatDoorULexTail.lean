
import Derived.Test.YtkhjahpkbjafaaaGreatDoorULexDoc
import Derived.Test.YtkhjahpkbjafaaaGreatDoorUEscDoc
import Derived.Test.YtkhjahpkbjafaaaGreatDoorURefDec
import Derived.Test.YtkhjahpkbjafaaaGreatDoorURefOne
import Derived.Test.YtkhjahpkbjafaaaGreatDoorUPlaceAll
/- The document's own Cut of chapter 7: what it calls. -/
/- What the statements of chapter 7 ask first, over what is asked of the program's Cut. -/
/- Words that a slice of one's own holds; a fault has no words. -/
namespace Go.Proofs.YtkhjahpkbjafaaaGreatDoor
open Go.RowKit

theorem rd_in {E P : List UInt8 → List UInt8 × Nat} {T : List UInt8} (hE : ∀ l, 0 < l.length → (E l).2 ≤ l.length) (hP : ∀ l, (P l).2 ≤ l.length) : ∀ f i acc, (rd E P T f i acc).2.2 < 0 → i < (rd E P T f i acc).2.1 ∧ (rd E P T f i acc).2.1 ≤ T.length
  | 0, i, acc, h => by rw [rd] at h; simp only at h; omega
  | f + 1, i, acc, h => by
    rw [rd] at h ⊢
    by_cases h1 : T.length ≤ i
    · rw [if_pos h1] at h; simp only at h; omega
    · rw [if_neg h1] at h ⊢
      by_cases h2 : 0 < (E (T.drop i)).2
      · rw [if_pos h2]
        have := hE (T.drop i) (by rw [List.length_drop]; omega)
        rw [List.length_drop] at this
        simp only; omega
      · rw [if_neg h2] at h ⊢
        by_cases h3 : (P (T.drop i)).2 = 0
        · rw [if_pos h3] at h; simp only at h; omega
        · rw [if_neg h3] at h ⊢
          have := rd_in hE hP f _ _ h
          omega
theorem unqJ_in (T : List UInt8) (a : Nat) (h : (unqJ T a).2.2 < 0) : a < (unqJ T a).2.1 ∧ (unqJ T a).2.1 ≤ T.length := by
  unfold unqJ at h ⊢
  by_cases h1 : 0 ≤ (a : Int) ∧ bt T (a : Int).toNat = 34
  · rw [if_pos h1] at h ⊢
    unfold rdA at h ⊢
    have := rd_in (fun l hl => by unfold oE; split <;> simp only <;> omega) (fun l => (fits_js l).1) _ _ _ h
    simp only [Int.toNat_natCast] at this ⊢
    omega
  · rw [if_neg h1] at h
    simp only [plc] at h
    split at h
    · omega
    · split at h <;> omega
end Go.Proofs.YtkhjahpkbjafaaaGreatDoor
namespace Go.Proofs.YtkhjahpkbjafaaaGreatDoor
open Go.RowKit

/-- words that lie in memory -/
def InW (w : World) (ws : List Wd) (v : Value) : Prop := ∃ (o : Option Addr) (a : Addr) (cap : Nat), v = .slice o ws.length cap ∧ ws.length ≤ cap ∧ cap ≤ maxLen ∧ (0 < ws.length → o = some a) ∧ ∀ i x, ws[i]? = some x →
  w.cell? (a.add (i * 3)) = some (.int .i64 (x.kd : Nat)) ∧ w.cell? ⟨(a.add (i * 3)).block, (a.add (i * 3)).off + 1, none⟩ = some (.string (mkS x.tx)) ∧ w.cell? ⟨(a.add (i * 3)).block, (a.add (i * 3)).off + 2, none⟩ = some (.int .i64 (x.at_ : Nat))
theorem lkeep {w w' : World} (hb : Below w.heap.size w w') {a : Addr} {v : Value} (hc : w.cell? a = some v) : w'.cell? a = some v := by
  rw [hb.cell (World.block_lt_of_cell? w a hc)]; exact hc
theorem InW.onto {w w' : World} {ws : List Wd} {v : Value} (h : InW w ws v) (hb : Below w.heap.size w w') : InW w' ws v := by
  obtain ⟨o, a, c, h1, h2, h3, h4, h5⟩ := h
  exact ⟨o, a, c, h1, h2, h3, h4, fun i x hx => ⟨lkeep hb (h5 i x hx).1, lkeep hb (h5 i x hx).2.1, lkeep hb (h5 i x hx).2.2⟩⟩
/-- the fault of a text as the program says it -/
def jfV (t : ByteArray) (R : List Wd × Nat × Nat) : Value := if R.2.1 = 0 then .agg #[.int .i64 0, .int .i64 0, .int .i64 0, .int .i64 0] else faultV t (R.2.2 : Nat) (R.2.1 : Nat)
/-- what is asked of the program's Cut -/
def Tryz.JPost (w : World) (t : ByteArray) (e : Ending) (w' : World) : Prop := ∃ v, e = .returned (.tuple #[v, jfV t (cutA t.data.toList)]) ∧ InW w' (cutA t.data.toList).1 v ∧ Below w.heap.size w w'
def Tryz.JHas : Prop := ∀ (t : ByteArray) (w : World), t.size ≤ 1000000 → GlobU w → Calls Tryz.prog 40 #[.string t] w (Tryz.JPost w t)
end Go.Proofs.YtkhjahpkbjafaaaGreatDoor
namespace Go.Proofs.YtkhjahpkbjafaaaGreatDoor
open Go.RowKit

theorem wflat_at {α : Type} (f : α → List Value) (m : Nat) (hf : ∀ a, (f a).length = m) : ∀ (A : List α) (i c : Nat) (a : α), A[i]? = some a → c < m → (A.flatMap f)[i * m + c]? = (f a)[c]?
  | [], i, c, a, h, _ => by simp at h
  | b :: A, 0, c, a, h, hc => by
    simp at h; subst h
    rw [List.flatMap_cons, Nat.zero_mul, Nat.zero_add, List.getElem?_append_left (by rw [hf]; exact hc)]
  | b :: A, i + 1, c, a, h, hc => by
    simp at h
    rw [List.flatMap_cons, List.getElem?_append_right (by rw [hf, Nat.add_mul]; omega), hf, show (i + 1) * m + c - m = i * m + c by rw [Nat.add_mul]; omega]
    exact wflat_at f m hf A i c a h hc
theorem wadd_at (b i : Nat) : Addr.add ⟨b, 0, none⟩ i = ⟨b, i, none⟩ := by
  simp only [Addr.add, Nat.zero_add]; split
  · next h0 => rw [h0]
  · rfl
theorem own_inw {w : World} {base : Nat} {v : Value} {ws : List Wd} {ty : TypeId} (h : w.ownsRow base ty 3 v ws.length (ws.flatMap wc)) : InW w ws v := by
  have hc := h
  rcases hc with ⟨-, ⟨rfl, h0⟩ | ⟨g, cap, cur, rfl, -, -, hn, hcm, -, -⟩⟩
  · have : ws = [] := List.eq_nil_of_length_eq_zero h0
    subst this
    exact ⟨none, ⟨0, 0, none⟩, 0, rfl, Nat.le_refl _, Nat.zero_le _, fun h => absurd h (by simp), fun i s h => by simp at h⟩
  have key : ∀ (i : Nat) (s : Wd), ws[i]? = some s → ∀ (c : Nat) (u : Value), (wc s)[c]? = some u → w.cell? ⟨g, i * 3 + c, none⟩ = some u := by
    intro i s hs c u hu
    have hi := (List.getElem?_eq_some_iff.1 hs).1
    have hc : c < 3 := (List.getElem?_eq_some_iff.1 hu).1
    rw [h.cellAt (i * 3 + c) (by omega), wflat_at wc 3 (fun _ => rfl) ws i c s hs hc]
    exact hu
  refine ⟨some ⟨g, 0, none⟩, ⟨g, 0, none⟩, cap, rfl, hn, hcm, fun _ => rfl, fun i s hs => ?_⟩
  rw [wadd_at]
  exact ⟨key i s hs 0 _ rfl, key i s hs 1 _ rfl, key i s hs 2 _ rfl⟩
end Go.Proofs.YtkhjahpkbjafaaaGreatDoor
