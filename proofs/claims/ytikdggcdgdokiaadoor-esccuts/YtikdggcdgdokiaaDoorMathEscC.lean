/- What is cut off is wrong at its end or ahead of it: plain mathematics. -/
import Derived.Test.YtikdggcdgdokiaaDoorMathEscB
namespace Go.Proofs.YtikdggcdgdokiaaDoor
open Go.RowKit

theorem cdI_app {l m : List UInt8} {k n : Nat} (h : 0 ≤ cdI l k n) : cdI (l ++ m) k n = cdI l k n := by
  have hl : k + n ≤ l.length := by
    by_cases hl : l.length < k + n
    · rw [cdI_short _ _ _ hl] at h; omega
    · omega
  have e : ((l ++ m).drop k).take n = (l.drop k).take n := by
    rw [List.drop_append_of_le_length (by omega), List.take_append_of_le_length (by rw [List.length_drop]; omega)]
  unfold cdI
  rw [e, List.length_append]
  by_cases hb : hexB ((l.drop k).take n) = true
  · rw [if_pos ⟨by omega, hb⟩, if_pos ⟨hl, hb⟩]
  · rw [if_neg (fun hc => hb hc.2), if_neg (fun hc => hb hc.2)]
theorem bt_app' {l m : List UInt8} {k : Nat} (h : bt l k < 256) : bt (l ++ m) k = bt l k := bt_app l m k (bt_lt h)
theorem nmV_lt {toml : Bool} {b : Nat} (h : nmV toml b < 256) : b < 256 := by
  by_cases hb : b < 256
  · exact hb
  · unfold nmV at h
    rw [if_neg (by omega), if_neg (by omega), if_neg (by omega), if_neg (by omega), if_neg (by omega), if_neg (by omega), if_neg (by omega), if_neg (by omega), if_neg (by omega)] at h
    omega
/-- what a longer text cannot take back -/
def Keeps (P : List UInt8 → List UInt8 × Nat) : Prop := ∀ l m, 0 < (P l).2 → P (l ++ m) = P l
theorem keeps_escU (toml : Bool) (n : Nat) (l m : List UInt8) (h : 0 < (escU toml l n).2) : escU toml (l ++ m) n = escU toml l n := by
  by_cases h1 : 0 ≤ cdI l 2 n ∧ goodB (cdI l 2 n) = true
  · have e := cdI_app (m := m) h1.1
    unfold escU
    rw [e, if_pos h1, if_pos h1]
  · by_cases h2 : toml = false ∧ 55296 ≤ cdI l 2 n ∧ cdI l 2 n < 56320 ∧ bt l 6 = 92 ∧ bt l 7 = 117 ∧ 56320 ≤ cdI l 8 4 ∧ cdI l 8 4 < 57344
    · have e := cdI_app (l := l) (m := m) (k := 2) (n := n) (by omega)
      have e2 := cdI_app (l := l) (m := m) (k := 8) (n := 4) (by omega)
      have e3 := bt_app' (l := l) (m := m) (k := 6) (by omega)
      have e4 := bt_app' (l := l) (m := m) (k := 7) (by omega)
      unfold escU
      rw [e, e2, e3, e4]
    · unfold escU at h
      rw [if_neg h1, if_neg h2] at h
      exact absurd h (Nat.lt_irrefl 0)
theorem keeps_esc (toml : Bool) : Keeps (escP toml) := fun l m h => by
  by_cases h1 : nmV toml (bt l 1) < 256
  · have e := bt_app' (l := l) (m := m) (nmV_lt h1)
    unfold escP
    rw [e, if_pos h1, if_pos h1]
  · by_cases h2 : bt l 1 = 85 ∧ toml = true
    · have e := bt_app' (l := l) (m := m) (k := 1) (by omega)
      unfold escP at h ⊢
      rw [if_neg h1, if_pos h2] at h
      rw [e, if_neg h1, if_pos h2, if_neg h1, if_pos h2]
      exact keeps_escU toml 8 l m h
    · by_cases h3 : bt l 1 = 117
      · have e := bt_app' (l := l) (m := m) (k := 1) (by omega)
        unfold escP at h ⊢
        rw [if_neg h1, if_neg h2, if_pos h3] at h
        rw [e, if_neg h1, if_neg h2, if_pos h3, if_neg h1, if_neg h2, if_pos h3]
        exact keeps_escU toml 4 l m h
      · unfold escP at h
        rw [if_neg h1, if_neg h2, if_neg h3] at h
        exact absurd h (Nat.lt_irrefl 0)
theorem keeps_pl : Keeps plP := fun l m h => by
  have h0 : tkN l ≠ 0 := by unfold plP at h; simp only at h; omega
  have := tkN_le l
  unfold plP
  rw [tkN_more l m h0, List.take_append_of_le_length this]
theorem keeps_pc (toml : Bool) : Keeps (pcB toml) := fun l m h => by
  rw [pcB_at] at h
  have hl : 0 < l.length := by
    have : (if toml = true then oeP l else jsP l).2 ≤ l.length := by
      cases toml with
      | false => rw [if_neg (by decide)]; exact (fits_js l).1
      | true => rw [if_pos rfl]; exact (fits_oe l).1
    omega
  have e := bt_app l m 0 hl
  rw [pcB_at, pcB_at]
  cases toml with
  | false =>
    rw [if_neg (by decide)] at h ⊢
    rw [if_neg (by decide)]
    unfold jsP at h ⊢
    rw [e]
    by_cases h1 : bt l 0 = 92
    · rw [if_pos h1] at h
      rw [if_pos h1, if_pos h1]
      exact keeps_esc false l m h
    · rw [if_neg h1] at h
      rw [if_neg h1, if_neg h1]
      by_cases h2 : bt l 0 < 32
      · rw [if_pos h2] at h; exact absurd h (Nat.lt_irrefl 0)
      · rw [if_neg h2] at h
        rw [if_neg h2, if_neg h2]
        exact keeps_pl l m h
  | true =>
    rw [if_pos rfl] at h ⊢
    rw [if_pos rfl]
    unfold oeP at h ⊢
    rw [e]
    by_cases h1 : bt l 0 = 92
    · rw [if_pos h1] at h
      rw [if_pos h1, if_pos h1]
      exact keeps_esc true l m h
    · rw [if_neg h1] at h
      rw [if_neg h1, if_neg h1]
      unfold opP at h ⊢
      rw [e]
      by_cases h2 : bt l 0 < 32 ∧ bt l 0 ≠ 9 ∨ bt l 0 = 127
      · rw [if_pos h2] at h; exact absurd h (Nat.lt_irrefl 0)
      · rw [if_neg h2] at h
        rw [if_neg h2, if_neg h2]
        exact keeps_pl l m h
theorem fits_pc (toml : Bool) : Fits (pcB toml) := fun l => by
  rw [pcB_at]
  cases toml with
  | false => rw [if_neg (by decide)]; exact fits_js l
  | true => rw [if_pos rfl]; exact fits_oe l
/-- where a reading ends, or is wrong -/
theorem rd_range (toml : Bool) (U : List UInt8) : ∀ f i acc, U.length < i + f → i ≤ U.length → (rd (oE 34) (pcB toml) U f i acc).2.2 = -1 ∨ (0 ≤ (rd (oE 34) (pcB toml) U f i acc).2.2 ∧ (rd (oE 34) (pcB toml) U f i acc).2.2 ≤ U.length) := by
  intro f
  induction f with
  | zero => intro i acc h1 h2; omega
  | succ f ih =>
    intro i acc h1 h2
    rw [rd]
    split
    · right; constructor <;> simp
    · split
      · left; rfl
      · split
        · right; constructor <;> simp; omega
        · have hf := (fits_pc toml (U.drop i)).1
          rw [List.length_drop] at hf
          exact ih _ _ (by omega) (by omega)
/-- a reading that ends is the reading of every longer text -/
theorem rd_keeps (toml : Bool) (U V : List UInt8) : ∀ f i acc g, U.length < i + f → i ≤ U.length → (U ++ V).length < i + g → (rd (oE 34) (pcB toml) U f i acc).2.2 = -1 →
    rd (oE 34) (pcB toml) (U ++ V) g i acc = rd (oE 34) (pcB toml) U f i acc ∧ (rd (oE 34) (pcB toml) U f i acc).2.1 ≤ U.length := by
  intro f
  induction f with
  | zero => intro i acc g h1 h2; omega
  | succ f ih =>
    intro i acc g h1 h2 h3 h4
    have hlen : (U ++ V).length = U.length + V.length := List.length_append
    by_cases hi : U.length ≤ i
    · rw [rd, if_pos hi] at h4
      simp only at h4; omega
    · have hd : (U ++ V).drop i = U.drop i ++ V := List.drop_append_of_le_length (by omega)
      have hl : 0 < (U.drop i).length := by rw [List.length_drop]; omega
      have hb := bt_app (U.drop i) V 0 hl
      have hE : oE 34 ((U ++ V).drop i) = oE 34 (U.drop i) := by rw [hd]; unfold oE; rw [hb]
      by_cases he : 0 < (oE 34 (U.drop i)).2
      · rw [rd_stop h3 (by omega) (by rw [hE]; exact he), rd_stop h1 (by omega) he, hE]
        refine ⟨rfl, ?_⟩
        have := (fits_oE 34 (by omega) (U.drop i)).1
        rw [List.length_drop] at this
        show i + (oE 34 (U.drop i)).2 ≤ U.length
        omega
      · have he0 : (oE 34 (U.drop i)).2 = 0 := by omega
        by_cases hp : (pcB toml (U.drop i)).2 = 0
        · rw [rd_wrong h1 (by omega) he0 hp] at h4
          simp only at h4; omega
        · have hP : pcB toml ((U ++ V).drop i) = pcB toml (U.drop i) := by rw [hd]; exact keeps_pc toml _ V (by omega)
          have hf := (fits_pc toml (U.drop i)).1
          rw [List.length_drop] at hf
          obtain ⟨g', k1, k2⟩ := rd_step (E := oE 34) (P := pcB toml) (acc := acc) h3 (by omega) (by rw [hE]; exact he0) (by rw [hP]; omega)
          have e1 : rd (oE 34) (pcB toml) U (f + 1) i acc = rd (oE 34) (pcB toml) U f (i + (pcB toml (U.drop i)).2) (acc ++ (pcB toml (U.drop i)).1) := by
            rw [rd, if_neg hi, if_neg he, if_neg hp]
          rw [hP] at k1 k2
          rw [e1] at h4 ⊢
          rw [k1]
          exact ih _ _ g' (by omega) (by omega) k2 h4
/-- a string that was written, cut off, is wrong at its end or ahead of it -/
theorem cut_wrong (toml : Bool) (s : List UInt8) (n : Nat) (hv : ∀ j < cnt s, tkN (s.drop (pos s j)) ≠ 0) (h1 : 1 ≤ n) (h2 : n < (qtA toml s).length) :
    0 ≤ (rdA (oE 34) (pcB toml) ((qtA toml s).take n) 1).2.2 ∧ (rdA (oE 34) (pcB toml) ((qtA toml s).take n) 1).2.2 ≤ n := by
  have hl : ((qtA toml s).take n).length = n := by rw [List.length_take]; omega
  have hr := rd_range toml ((qtA toml s).take n) (((qtA toml s).take n).length + 1) 1 [] (by omega) (by omega)
  rcases hr with h | h
  · have hk := rd_keeps toml ((qtA toml s).take n) ((qtA toml s).drop n) (((qtA toml s).take n).length + 1) 1 [] ((qtA toml s).length + 1) (by omega) (by omega) (by rw [List.take_append_drop]; omega) h
    rw [List.take_append_drop] at hk
    have hw := rd_whole toml s [] [] hv
    rw [List.nil_append, List.append_nil] at hw
    have hw' : rd (oE 34) (pcB toml) (qtA toml s) ((qtA toml s).length + 1) 1 [] = (s, 0 + (qtA toml s).length, -1) := hw
    have h9 := hk.2
    rw [← hk.1, hw'] at h9
    simp only at h9
    omega
  · unfold rdA
    rw [hl] at h ⊢
    exact h
end Go.Proofs.YtikdggcdgdokiaaDoor
