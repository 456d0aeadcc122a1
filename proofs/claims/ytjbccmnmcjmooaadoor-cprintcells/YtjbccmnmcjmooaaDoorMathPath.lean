/- The texts of paths: strings.ReplaceAll by its laws over a list's head; the marks of a key, and back. -/
import Derived.Lib.Replace
namespace Go.Proofs.YtjbccmnmcjmooaaDoor
open Go

def rA (old new s : List UInt8) : List UInt8 := Lib.replaceK old new (Lib.count s old) s
theorem ra_of {s old new : List UInt8} (h : (old == new) = false) : Lib.replaceAll s old new = rA old new s := by
  unfold Lib.replaceAll Lib.replace Lib.replaceNum rA
  rw [if_neg (by rw [h]; decide), if_pos (Or.inl (by decide))]
theorem ra_nil (old new : List UInt8) (h : old ≠ []) : rA old new [] = [] := by
  have hi : Lib.index [] old = -1 := by
    unfold Lib.index
    rw [if_neg (by rw [List.isEmpty_iff]; exact h)]
  unfold rA
  rw [Lib.count_miss hi]; rfl
theorem index_cons {old : List UInt8} {b : UInt8} {l : List UInt8} (h : old.isPrefixOf (b :: l) = false) : Lib.index (b :: l) old = if Lib.index l old == -1 then -1 else Lib.index l old + 1 := by
  rw [Lib.index, if_neg (by rw [h]; decide)]
theorem ra_cons {old new : List UInt8} {b : UInt8} {l : List UInt8} (h0 : old ≠ []) (h : old.isPrefixOf (b :: l) = false) : rA old new (b :: l) = b :: rA old new l := by
  have hi := index_cons h
  by_cases hm : Lib.index l old = -1
  · rw [if_pos (beq_iff_eq.2 hm)] at hi
    unfold rA
    rw [Lib.count_miss hi, Lib.count_miss hm]; rfl
  · rw [if_neg (fun e => hm (beq_iff_eq.1 e))] at hi
    have hge := Lib.index_ge l old
    obtain ⟨i, hli⟩ : ∃ i : Nat, Lib.index l old = i := ⟨(Lib.index l old).toNat, by omega⟩
    have hbi : Lib.index (b :: l) old = ((i + 1 : Nat) : Int) := by rw [hi, hli]; rfl
    unfold rA
    have e : i + 1 + old.length = (i + old.length) + 1 := by omega
    rw [Lib.count_hit h0 hli, Lib.count_hit h0 hbi, e, List.drop_succ_cons, Nat.add_comm 1, Lib.replaceK_hit _ _ _ _ _ hbi, Lib.replaceK_hit _ _ _ _ _ hli, e, List.drop_succ_cons, List.take_succ_cons]
    rfl
theorem ra_hit {old new : List UInt8} (l : List UInt8) (h0 : old ≠ []) : rA old new (old ++ l) = new ++ rA old new l := by
  have hi : Lib.index (old ++ l) old = ((0 : Nat) : Int) := by
    cases old with
    | nil => exact absurd rfl h0
    | cons a t =>
      have hp : (a :: t).isPrefixOf (a :: (t ++ l)) = true := by
        rw [List.isPrefixOf_iff_prefix]; exact ⟨l, rfl⟩
      show Lib.index (a :: (t ++ l)) (a :: t) = _
      rw [Lib.index, if_pos hp]; rfl
  unfold rA
  rw [Lib.count_hit h0 hi, Nat.add_comm 1, Lib.replaceK_hit _ _ _ _ _ hi]
  simp

/-- ReplaceAll of one byte -/
theorem ra_one (c : UInt8) (new : List UInt8) : ∀ s, rA [c] new s = s.flatMap (fun b => if b = c then new else [b])
  | [] => ra_nil _ _ (by simp)
  | b :: l => by
    by_cases h : b = c
    · subst h
      rw [List.flatMap_cons, if_pos rfl, ← ra_one b new l]
      exact ra_hit l (by simp)
    · rw [List.flatMap_cons, if_neg h, ← ra_one c new l, ra_cons (by simp) (by simp [List.isPrefixOf, Ne.symm h])]
      rfl

/-- a key's bytes, marked -/
def escB (b : UInt8) : List UInt8 := if b = 126 then [126, 48] else if b = 47 then [126, 49] else [b]
def esc (k : List UInt8) : List UInt8 := k.flatMap escB
theorem esc_of (k : List UInt8) : rA [47] [126, 49] (rA [126] [126, 48] k) = esc k := by
  rw [ra_one, ra_one]
  unfold esc
  induction k with
  | nil => rfl
  | cons b l ih =>
    rw [List.flatMap_cons, List.flatMap_cons, List.flatMap_append, ih]
    congr 1
    unfold escB
    by_cases h : b = 126
    · rw [if_pos h, if_pos h]; rfl
    · rw [if_neg h, if_neg h]; simp
theorem esc_len (k : List UInt8) : (esc k).length ≤ 2 * k.length := by
  unfold esc
  induction k with
  | nil => simp
  | cons b l ih =>
    rw [List.flatMap_cons, List.length_append, List.length_cons]
    have : (escB b).length ≤ 2 := by
      unfold escB
      split
      · simp
      · split <;> simp
    omega
def esc0 (k : List UInt8) : List UInt8 := k.flatMap (fun b => if b = 126 then [126, 48] else [b])
theorem back1 : ∀ k, rA [126, 49] [47] (esc k) = esc0 k
  | [] => ra_nil _ _ (by simp)
  | b :: l => by
    have ih := back1 l
    unfold esc esc0 at *
    rw [List.flatMap_cons, List.flatMap_cons]
    by_cases h : b = 126
    · subst h
      rw [show escB 126 = [126, 48] from rfl, if_pos rfl, ← ih]
      show rA _ _ (126 :: 48 :: List.flatMap escB l) = _
      rw [ra_cons (by simp) (by simp [List.isPrefixOf]), ra_cons (by simp) (by simp [List.isPrefixOf])]
      rfl
    · by_cases h7 : b = 47
      · subst h7
        rw [show escB 47 = [126, 49] from rfl, if_neg (by decide), ← ih]
        exact ra_hit _ (by simp)
      · rw [show escB b = [b] by unfold escB; rw [if_neg h, if_neg h7], if_neg h, ← ih]
        show rA _ _ (b :: List.flatMap escB l) = _
        rw [ra_cons (by simp) (by simp [List.isPrefixOf, Ne.symm h])]
        rfl
theorem back0 : ∀ k, rA [126, 48] [126] (esc0 k) = k
  | [] => ra_nil _ _ (by simp)
  | b :: l => by
    have ih := back0 l
    unfold esc0 at *
    rw [List.flatMap_cons]
    by_cases h : b = 126
    · subst h
      rw [if_pos rfl, ra_hit _ (by simp), ih]; rfl
    · rw [if_neg h]
      show rA _ _ (b :: List.flatMap _ l) = _
      rw [ra_cons (by simp) (by simp [List.isPrefixOf, Ne.symm h]), ih]
/-- a key's text, read back -/
theorem esc_back (k : List UInt8) : rA [126, 48] [126] (rA [126, 49] [47] (esc k)) = k := by rw [back1, back0]
end Go.Proofs.YtjbccmnmcjmooaaDoor
