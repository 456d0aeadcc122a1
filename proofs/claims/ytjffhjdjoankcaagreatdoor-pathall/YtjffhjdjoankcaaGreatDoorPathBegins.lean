/- Does a path begin so? begins, walked. -/
import Derived.Test.YtjffhjdjoankcaaGreatDoorPathDoc
namespace Go.Proofs.YtjffhjdjoankcaaGreatDoor
open Go.RowKit

set_option maxRecDepth 100000 in
set_option maxHeartbeats 2000000 in
theorem begins_any (p q : List PStep) (x y : Value) (w : World) (hp : InP w p x) (hq : InP w q y) (r : Bool) (hr : r = true ↔ q <+: p) :
    Calls Tryz.prog 34 #[x, y] w fun e w' => e = .returned (.bool r) ∧ Below w.heap.size w w' := by
  obtain ⟨a, ⟨oa, ca, rfl, ha1, ha2, ha3⟩, hac⟩ := hp
  obtain ⟨b, ⟨ob, cb, rfl, hb1, hb2, hb3⟩, hbc⟩ := hq
  unfold maxLen at ha2 hb2
  have HA := hid hac
  have HB := hid hbc
  have HR := hid hr
  clear hac hbc hr
  by_cases hlen : p.length < q.length
  · have HF := hid (show r = false by rw [← Bool.not_eq_true, HR.out]; intro e; have := e.length_le; omega)
    go_enter Tryz.func34, Tryz.ntmps34
    go_wp2_with fail
    go_ret
    exact ⟨ret_bool HF.out.symm, Below.refl _ _⟩
  go_enter Tryz.func34, Tryz.ntmps34
  go_wp2_with fail
  go_loopw [5] (fun i wr => ∃ j : Nat, i = .int .i64 j ∧ j ≤ q.length ∧ Hid (∀ k a b, k < j → p[k]? = some a → q[k]? = some b → a = b) ∧ Below w.heap.size w wr) (fun i _ => q.length - (intOf i).toNat)
  case atStart => exact ⟨0, rfl, Nat.zero_le _, fun k a b h => absurd h (Nat.not_lt_zero _), Below.refl _ _⟩
  case round =>
    obtain ⟨j, rfl, hj, HJ, hbw⟩ := hrel
    by_cases hlt : j < q.length
    · have hlt2 : j < p.length := by omega
      obtain ⟨s, hs⟩ : ∃ s, p[j]? = some s := ⟨p[j], List.getElem?_eq_getElem hlt2⟩
      obtain ⟨u, hu⟩ : ∃ u, q[j]? = some u := ⟨q[j], List.getElem?_eq_getElem hlt⟩
      obtain rfl := ha3 (by omega)
      obtain rfl := hb3 (by omega)
      obtain ⟨s0, s1, s2, s3⟩ := HA.out j s hs
      obtain ⟨u0, u1, u2, u3⟩ := HB.out j u hu
      have t0 := keepCell hbw s0; have t1 := keepCell hbw s1; have t2 := keepCell hbw s2
      have v0 := keepCell hbw u0; have v1 := keepCell hbw u1; have v2 := keepCell hbw u2
      clear s0 s1 s2 u0 u1 u2
      by_cases hsu : s = u
      · subst hsu
        have HN : Hid (∀ k a b, k < j + 1 → p[k]? = some a → q[k]? = some b → a = b) := fun k a' b' hk' h1 h2 => by
          by_cases e : k = j
          · subst e; rw [hs] at h1; rw [hu] at h2; cases h1; cases h2; rfl
          · exact HJ.out k a' b' (by omega) h1 h2
        clear hs hu HJ
        go_wp2_with fail
        go_quiet (fail)
        go_wp2_with fail
        go_roundw
        case rel => exact ⟨j + 1, val_int (by omega), hlt, HN, vdrew_bel hbw nq⟩
        case measure => simp [intOf]; omega
      · have HF := hid (show r = false by
          rw [← Bool.not_eq_true, HR.out]
          rintro ⟨t, rfl⟩
          rw [List.getElem?_append_left hlt, hu] at hs
          injection hs with hs
          exact hsu hs.symm)
        by_cases hk : s.key.data.toList = u.key.data.toList
        · have te := txt_is s.key u.key hk
          by_cases hat : s.at_ = u.at_
          · have ta : (s.at_ != u.at_) = false := by simpa using hat
            have hpl : ¬ s.place = u.place := fun e => hsu (ps_ext _ _ hk hat e)
            cases hps : s.place <;> cases hpu : u.place
            all_goals rw [hps] at t2
            all_goals rw [hpu] at v2
            case false.false | true.true => exact absurd (hps.trans hpu.symm) hpl
            all_goals
              clear hs hu HJ HR hpl hps hpu hsu hk
              go_wp2_with fail
              go_quiet (fail)
              go_wp2_with fail
              go_ret
              exact ⟨ret_bool HF.out.symm, vdrew_bel hbw nq⟩
          · have ta : (s.at_ != u.at_) = true := by simpa using hat
            clear hs hu HJ HR hsu hk
            go_wp2_with fail
            go_quiet (fail)
            go_wp2_with fail
            go_ret
            exact ⟨ret_bool HF.out.symm, vdrew_bel hbw nq⟩
        · have tk : (s.key.toList == u.key.toList) = false := by rw [beq_eq_false_iff_ne, Lib.toList_data, Lib.toList_data]; exact hk
          clear hs hu HJ HR
          go_wp2_with fail
          go_quiet (fail)
          go_wp2_with fail
          go_ret
          exact ⟨ret_bool HF.out.symm, vdrew_bel hbw nq⟩
    · have HT := hid (show r = true by
        rw [HR.out]
        have hjq : j = q.length := by omega
        subst hjq
        rw [List.prefix_iff_eq_take]
        apply List.ext_getElem?
        intro k
        rw [List.getElem?_take]
        split
        · rename_i hk
          have h1 : q[k]? = some q[k] := List.getElem?_eq_getElem hk
          have h2 : p[k]? = some p[k] := List.getElem?_eq_getElem (by omega)
          rw [h1, h2, HJ.out k _ _ hk h2 h1]
        · rename_i hk
          exact List.getElem?_eq_none (by omega))
      clear HR HJ
      go_wp2_with fail
      go_ret
      exact ⟨ret_bool HT.out.symm, hbw⟩
end Go.Proofs.YtjffhjdjoankcaaGreatDoor
