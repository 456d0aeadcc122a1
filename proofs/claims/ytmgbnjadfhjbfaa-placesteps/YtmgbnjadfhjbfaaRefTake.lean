import Derived.Test.YtmgbnjadfhjbfaaRefTake1
import Derived.Test.YtmgbnjadfhjbfaaRefTake2
import Derived.Test.YtmgbnjadfhjbfaaRefTake3
import Derived.Test.YtmgbnjadfhjbfaaRefTake4
namespace Go.Proofs.Ytmgbnjadfhjbfaa
open Go.RowKit

theorem rtake_all (s : ByteArray) (w : World) (hs : s.size ≤ maxLen) :
    Calls Try.prog 22 #[.string s] w fun e w' => e = .returned (.tuple #[.int .i64 (tkR s.data.toList), .int .i64 (tkN s.data.toList)]) ∧ Below w.heap.size w w' := by
  by_cases h0 : s.size = 0
  · exact rtake_none s w h0
  · have hp : 0 < s.size := by omega
    have hb := s[0].toNat_lt
    by_cases h1 : s[0].toNat < 128
    · exact rtake_one s w hs hp (by unfold begN; rw [if_pos h1]) (by omega) (by omega)
    · by_cases h2 : s[0].toNat < 192
      · exact rtake_no s w hp (by unfold begN; rw [if_neg h1, if_pos h2]) (by omega) (Or.inl (by omega))
      · by_cases h3 : s[0].toNat < 224
        · exact rtake_two s w hs hp (by unfold begN; rw [if_neg h1, if_neg h2, if_pos h3]) (by omega) (by omega)
        · by_cases h4 : s[0].toNat < 240
          · exact rtake_three s w hs hp (by unfold begN; rw [if_neg h1, if_neg h2, if_neg h3, if_pos h4]) (by omega) (by omega)
          · by_cases h5 : s[0].toNat < 248
            · exact rtake_four s w hs hp (by unfold begN; rw [if_neg h1, if_neg h2, if_neg h3, if_neg h4, if_pos h5]) (by omega) (by omega)
            · exact rtake_no s w hp (by unfold begN; rw [if_neg h1, if_neg h2, if_neg h3, if_neg h4, if_neg h5]) (by omega) (Or.inr (by omega))
theorem rtake_at (s : ByteArray) (p : Nat) (w : World) (hs : s.size ≤ maxLen) :
    Calls Try.prog 22 #[.string (s.extract p s.size)] w fun e w' => e = .returned (.tuple #[.int .i64 (tkR (s.data.toList.drop p)), .int .i64 (tkN (s.data.toList.drop p))]) ∧ Below w.heap.size w w' := by
  have h := rtake_all (s.extract p s.size) w (cut_size s p hs)
  rw [drop_list] at h
  exact h
end Go.Proofs.Ytmgbnjadfhjbfaa
