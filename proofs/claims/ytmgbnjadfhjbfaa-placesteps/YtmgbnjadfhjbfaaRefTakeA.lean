import Derived.Deep.RegionWith
import Derived.Test.YtmgbnjadfhjbfaaRefPut
namespace Go.Proofs.Ytmgbnjadfhjbfaa
open Go.RowKit

theorem toList_some (s : ByteArray) (h : 0 < s.size) : s.toList.isEmpty = false := by
  rw [ByteArray.toList_eq]
  have := list_of s h
  rw [this]; rfl
theorem toList_none (s : ByteArray) (h : s.size = 0) : s.toList.isEmpty = true := by
  rw [ByteArray.toList_eq]
  have : s.data.toList.length = 0 := by simpa using h
  rw [List.length_eq_zero_iff.1 this]; rfl
theorem fol_step' (s : ByteArray) (b k : Nat) (h1 : 1 ≤ k) (h : k < s.size) (hc : cont s[k] = true) :
    64 * (fol (begR b) (rest s k) : Int) + (s[k].toNat : Int) - 128 = (fol (begR b) (rest s (k + 1)) : Int) := by
  rw [rest_snoc s k h1 h, fol_snoc]
  have h2 := of_decide_eq_true hc
  omega

theorem rtake_none (s : ByteArray) (w : World) (h0 : s.size = 0) :
    Calls Try.prog 22 #[.string s] w fun e w' => e = .returned (.tuple #[.int .i64 (tkR s.data.toList), .int .i64 (tkN s.data.toList)]) ∧ Below w.heap.size w w' := by
  have e : s.data.toList = [] := by
    have : s.data.toList.length = 0 := by simpa using h0
    exact List.length_eq_zero_iff.1 this
  rw [e]
  have hz := toList_none s h0
  clear e h0
  go_enter Try.func22, Try.ntmps22
  go_wp2
  go_ret2
  exact ⟨rfl, Below.refl _ _⟩
set_option maxRecDepth 100000 in
set_option maxHeartbeats 400000 in
theorem rtake_no (s : ByteArray) (w : World) (h0 : 0 < s.size) (hN : begN s[0].toNat = 0) (hlo : (128 : Int) ≤ (s[0].toNat : Int)) (hhi : (s[0].toNat : Int) < 192 ∨ (248 : Int) ≤ (s[0].toNat : Int)) :
    Calls Try.prog 22 #[.string s] w fun e w' => e = .returned (.tuple #[.int .i64 (tkR s.data.toList), .int .i64 (tkN s.data.toList)]) ∧ Below w.heap.size w w' := by
  have he : s.toList.isEmpty = false := toList_some s h0
  have hub : (s[0].toNat : Int) < 256 := by have := s[0].toNat_lt; omega
  have E := hid (tk_no s h0 (by rw [tkOk_of s h0, hN, decide_eq_false (by omega)]; rfl))
  clear hN
  rcases hhi with hhi | hhi
  all_goals
    go_enter Try.func22, Try.ntmps22
    go_wp2
    go_ret2
    exact ⟨ret_two (by rw [E.out.1]; rfl) (by rw [E.out.2]; rfl), Below.refl _ _⟩
end Go.Proofs.Ytmgbnjadfhjbfaa
