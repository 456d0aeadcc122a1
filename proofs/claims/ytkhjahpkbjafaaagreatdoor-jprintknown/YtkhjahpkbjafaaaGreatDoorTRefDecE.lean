/- Plain mathematics: a value's text is letters; read whole, cut off, and with more behind it. -/
import Derived.Test.YtkhjahpkbjafaaaGreatDoorTMathVal
import Derived.Test.YtkhjahpkbjafaaaGreatDoorTMathParts
import Derived.Test.YtkhjahpkbjafaaaGreatDoorTEscK
import Derived.Test.YtkhjahpkbjafaaaGreatDoorTRefOne
import Derived.Test.YtkhjahpkbjafaaaGreatDoorTLexTail
import Derived.Deep.RegionWith
/- The document's own writing of whole numbers, walked: Text. -/
namespace Go.Proofs.YtkhjahpkbjafaaaGreatDoor
open Go.RowKit

/-- the same of shapes -/
def balS : List (Nat × List UInt8) → Int
  | [] => 0
  | x :: r => (if x.1 = 1 then (if x.2 = [91] ∨ x.2 = [123] then 1 else if x.2 = [93] ∨ x.2 = [125] then -1 else 0) else 0) + balS r
theorem balS_app : ∀ a b, balS (a ++ b) = balS a + balS b
  | [], b => by simp [balS]
  | x :: a, b => by rw [List.cons_append, balS, balS, balS_app a b, Int.add_assoc]
/-- even at its end, and never below nought ahead of it -/
def Evn (A : List (Nat × List UInt8)) : Prop := balS A = 0 ∧ ∀ P, P <+: A → 0 ≤ balS P
theorem pre_app {α : Type} {P A B : List α} (h : P <+: A ++ B) : P <+: A ∨ ∃ Q, P = A ++ Q ∧ Q <+: B := by
  obtain ⟨R, hR⟩ := h
  rcases List.append_eq_append_iff.1 hR with ⟨C, h1, h2⟩ | ⟨C, h1, h2⟩
  · left; exact ⟨C, h1.symm⟩
  · right; exact ⟨C, h1, ⟨R, h2.symm⟩⟩
theorem evn_nil : Evn [] := ⟨rfl, fun P h => by rw [List.prefix_nil.1 h]; decide⟩
theorem Evn.app {A B : List (Nat × List UInt8)} (h : Evn A) (g : Evn B) : Evn (A ++ B) := by
  refine ⟨by rw [balS_app, h.1, g.1]; rfl, fun P hP => ?_⟩
  rcases pre_app hP with h1 | ⟨Q, rfl, h1⟩
  · exact h.2 P h1
  · rw [balS_app, h.1]
    have := g.2 Q h1
    omega
theorem evn_one {p : Nat × List UInt8} (h : balS [p] = 0) : Evn [p] := by
  refine ⟨h, fun P hP => ?_⟩
  rcases P with _ | ⟨x, _ | ⟨y, r⟩⟩
  · decide
  · obtain ⟨R, hR⟩ := hP
    simp at hR
    rw [hR.1, h]; decide
  · have := hP.length_le
    simp at this
theorem shS_bal (k n : Int) (s : ByteArray) : balS [shS k n s] = 0 := by
  unfold shS
  (repeat' split) <;> simp [balS]
theorem Evn.wrap {A : List (Nat × List UInt8)} {o c : UInt8} (h : Evn A) (ho : balS [(1, [o])] = 1) (hc : balS [(1, [c])] = -1) : Evn ((1, [o]) :: (A ++ [(1, [c])])) ∧ ∀ P, P <+: (1, [o]) :: (A ++ [(1, [c])]) → P ≠ [] → P ≠ (1, [o]) :: (A ++ [(1, [c])]) → 1 ≤ balS P := by
  have key : ∀ P, P <+: (1, [o]) :: (A ++ [(1, [c])]) → P ≠ [] → P ≠ (1, [o]) :: (A ++ [(1, [c])]) → 1 ≤ balS P := by
    intro P hP h0 h1
    cases P with
    | nil => exact absurd rfl h0
    | cons x Q =>
      obtain ⟨R, hR⟩ := hP
      rw [List.cons_append, List.cons.injEq] at hR
      obtain ⟨rfl, hR⟩ := hR
      rw [show (1, [o]) :: Q = [(1, [o])] ++ Q from rfl, balS_app, ho]
      rcases pre_app ⟨R, hR⟩ with h2 | ⟨S, rfl, h2⟩
      · have := h.2 Q h2
        omega
      · rcases S with _ | ⟨y, _ | ⟨z, r⟩⟩
        · rw [List.append_nil, h.1]; decide
        · obtain ⟨R2, hR2⟩ := h2
          simp at hR2
          rw [hR2.1] at h1
          exact absurd rfl h1
        · have := h2.length_le
          simp at this
  refine ⟨⟨?_, fun P hP => ?_⟩, key⟩
  · rw [show (1, [o]) :: (A ++ [(1, [c])]) = [(1, [o])] ++ (A ++ [(1, [c])]) from rfl, balS_app, balS_app, ho, hc, h.1]; decide
  · by_cases h0 : P = []
    · rw [h0]; decide
    · by_cases h1 : P = (1, [o]) :: (A ++ [(1, [c])])
      · rw [h1, show (1, [o]) :: (A ++ [(1, [c])]) = [(1, [o])] ++ (A ++ [(1, [c])]) from rfl, balS_app, balS_app, ho, hc, h.1]; decide
      · have := key P hP h0 h1
        omega
mutual
theorem evn_val : ∀ v : VT, Evn (shV v)
  | .mk k n s L K V => by
    rw [shV]
    split
    · exact ((evn_list L).wrap (by decide) (by decide)).1
    · split
      · exact ((evn_map V K).wrap (by decide) (by decide)).1
      · exact evn_one (shS_bal k n s)
theorem evn_list : ∀ L : List VT, Evn (shL L)
  | [] => by rw [shL]; exact evn_nil
  | t :: r => by rw [shL]; exact (evn_val t).app (evn_listc r)
theorem evn_listc : ∀ L : List VT, Evn (shLc L)
  | [] => by rw [shLc]; exact evn_nil
  | t :: r => by rw [shLc]; exact Evn.app (A := [(1, [44])]) (evn_one (by decide)) ((evn_val t).app (evn_listc r))
theorem evn_map : ∀ (V : List VT) (K : List ByteArray), Evn (shM V K)
  | [], K => by rw [shM]; exact evn_nil
  | t :: r, K => by rw [shM]; exact Evn.app (A := [_]) (evn_one (by simp [balS])) (Evn.app (A := [(1, [58])]) (evn_one (by decide)) ((evn_val t).app (evn_mapc r K.tail)))
theorem evn_mapc : ∀ (V : List VT) (K : List ByteArray), Evn (shMc V K)
  | [], K => by rw [shMc]; exact evn_nil
  | t :: r, K => by rw [shMc]; exact Evn.app (A := [(1, [44])]) (evn_one (by decide)) (Evn.app (A := [_]) (evn_one (by simp [balS])) (Evn.app (A := [(1, [58])]) (evn_one (by decide)) ((evn_val t).app (evn_mapc r K.tail))))
end
end Go.Proofs.YtkhjahpkbjafaaaGreatDoor
namespace Go.Proofs.YtkhjahpkbjafaaaGreatDoor
open Go.RowKit

end Go.Proofs.YtkhjahpkbjafaaaGreatDoor
