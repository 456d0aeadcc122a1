
import Derived.Test.YtadbeodeiijhdaaGreatDoorFPathOne
import Derived.Test.YtadbeodeiijhdaaGreatDoorFRefVal5
import Derived.Test.YtadbeodeiijhdaaGreatDoorFOrders
import Derived.Test.YtadbeodeiijhdaaGreatDoorFVHold
import Derived.Deep.AppendLies
import Derived.BigQuiet
/- The document's side: may a path be? -/
/- The document's side: a path as its own steps. -/
/- The document's side: are two paths alike? -/
namespace Go.Proofs.YtadbeodeiijhdaaGreatDoor
open Go.RowKit

/-- a step may be -/
def stepOk (s : PStep) : Bool := if s.place = true then (s.key.toList.isEmpty && decide (0 ≤ s.at_ ∧ s.at_ ≤ 1000000000)) else (decide (s.at_ = 0) && strOkB s.key)
def pathOk (p : List PStep) : Bool := decide (p.length ≤ 50) && p.all stepOk
end Go.Proofs.YtadbeodeiijhdaaGreatDoor
namespace Go.Proofs.YtadbeodeiijhdaaGreatDoor
open Go.RowKit

theorem Tryz.infoStep : (Tryz.prog.info? 75).map (fun i => (i.zero, i.size, i.bytes)) = some (some (.agg #[.string ⟨#[]⟩, .int .i64 0, .bool false]), 3, 32) := by kernel_rfl
/-- a step's cells -/
def sc (s : PStep) : List Value := [.string s.key, .int .i64 s.at_, .bool s.place]
theorem sc_one (s : PStep) : ∀ u ∈ sc s, u.oneCell' = true := by
  intro u hu
  unfold sc at hu
  simp at hu
  rcases hu with rfl | rfl | rfl <;> rfl
/-- a slice of one's own that holds steps is a path -/
theorem own_inp {w : World} {base : Nat} {v : Value} {p : List PStep} {ty : TypeId} (h : w.ownsRow base ty 3 v p.length (p.flatMap sc)) (hp : ∀ s ∈ p, s.key.size ≤ maxLen) : InP w p v := by
  have hc := h
  rcases hc with ⟨-, ⟨rfl, h0⟩ | ⟨g, cap, cur, rfl, -, -, hn, hcm, -, -⟩⟩
  · have : p = [] := List.eq_nil_of_length_eq_zero h0
    subst this
    exact ⟨⟨0, 0, none⟩, ⟨none, 0, rfl, Nat.le_refl _, Nat.zero_le _, fun h => absurd h (by simp)⟩, fun i s h => by simp at h⟩
  have key : ∀ (i : Nat) (s : PStep), p[i]? = some s → ∀ (c : Nat) (u : Value), (sc s)[c]? = some u → w.cell? ⟨g, i * 3 + c, none⟩ = some u := by
    intro i s hs c u hu
    have hi := lt_of_some hs
    have hc : c < 3 := lt_of_some hu
    rw [h.cellAt (i * 3 + c) (by omega), flat_at sc 3 (fun _ => rfl) p i c s hs hc]
    exact hu
  refine ⟨⟨g, 0, none⟩, ⟨_, _, rfl, hn, hcm, fun _ => rfl⟩, fun i s hs => ?_⟩
  rw [add_at]
  exact ⟨key i s hs 0 _ rfl, key i s hs 1 _ rfl, key i s hs 2 _ rfl, hp s (List.mem_of_getElem? hs)⟩
end Go.Proofs.YtadbeodeiijhdaaGreatDoor
namespace Go.Proofs.YtadbeodeiijhdaaGreatDoor
open Go.RowKit

theorem ps_ext (a b : PStep) (h1 : a.key.data.toList = b.key.data.toList) (h2 : a.at_ = b.at_) (h3 : a.place = b.place) : a = b := by
  obtain ⟨ka, pa, ba⟩ := a
  obtain ⟨kb, pb, bb⟩ := b
  simp only at h1 h2 h3
  have hk : ka = kb := by rw [mkS_of ka _ rfl, mkS_of kb _ rfl, h1]
  rw [hk, h2, h3]
theorem like_no {p q : List PStep} {i : Nat} {a b : PStep} (ha : p[i]? = some a) (hb : q[i]? = some b) (h : ¬ a = b) : ¬ p = q := fun e => by subst e; rw [ha] at hb; cases hb; exact h rfl
set_option maxRecDepth 100000 in
set_option maxHeartbeats 2000000 in
theorem psame_any (p q : List PStep) (x y : Value) (w : World) (hp : InP w p x) (hq : InP w q y) (r : Bool) (hr : r = true ↔ p = q) :
    Calls Tryz.prog 15 #[x, y] w fun e w' => e = .returned (.bool r) ∧ Below w.heap.size w w' := by
  obtain ⟨a, ⟨oa, ca, rfl, ha1, ha2, ha3⟩, hac⟩ := hp
  obtain ⟨b, ⟨ob, cb, rfl, hb1, hb2, hb3⟩, hbc⟩ := hq
  unfold maxLen at ha2 hb2
  have HA := hid hac
  have HB := hid hbc
  have HR := hid hr
  clear hac hbc hr
  by_cases hlen : p.length = q.length
  case neg =>
    have HF := hid (show r = false by rw [← Bool.not_eq_true, HR.out]; intro e; exact hlen (by rw [e]))
    have tz : ((p.length : Int) != q.length) = true := by simp; omega
    go_enter Tryz.func15, Tryz.ntmps15
    go_wp2_with fail
    go_ret
    exact ⟨ret_bool HF.out.symm, Below.refl _ _⟩
  have HL := hid hlen
  have tz : ((p.length : Int) != q.length) = false := by simp; omega
  clear hlen
  go_enter Tryz.func15, Tryz.ntmps15
  go_wp2_with fail
  go_loopw [5] (fun i wr => ∃ j : Nat, i = .int .i64 j ∧ j ≤ p.length ∧ Hid (∀ k a b, k < j → p[k]? = some a → q[k]? = some b → a = b) ∧ Below w.heap.size w wr) (fun i _ => p.length - (intOf i).toNat)
  case atStart => exact ⟨0, rfl, Nat.zero_le _, fun k a b h => absurd h (Nat.not_lt_zero _), Below.refl _ _⟩
  case round =>
    obtain ⟨j, rfl, hj, HJ, hbw⟩ := hrel
    by_cases hlt : j < p.length
    · have hlt2 : j < q.length := by have := HL.out; omega
      obtain ⟨s, hs⟩ : ∃ s, p[j]? = some s := ⟨p[j], List.getElem?_eq_getElem hlt⟩
      obtain ⟨u, hu⟩ : ∃ u, q[j]? = some u := ⟨q[j], List.getElem?_eq_getElem hlt2⟩
      obtain rfl := ha3 (by omega)
      obtain rfl := hb3 (by omega)
      obtain ⟨s0, s1, s2, s3⟩ := HA.out j s hs
      obtain ⟨u0, u1, u2, u3⟩ := HB.out j u hu
      have t0 := keepCell hbw s0; have t1 := keepCell hbw s1; have t2 := keepCell hbw s2
      have v0 := keepCell hbw u0; have v1 := keepCell hbw u1; have v2 := keepCell hbw u2
      clear s0 s1 s2 u0 u1 u2
      have hltI : (j : Int) < q.length := by omega
      by_cases hk : s.key.data.toList = u.key.data.toList
      · have te := txt_is s.key u.key hk
        by_cases hat : s.at_ = u.at_
        · have ta : (s.at_ != u.at_) = false := by simpa using hat
          cases hps : s.place <;> cases hpu : u.place
          all_goals rw [hps] at t2
          all_goals rw [hpu] at v2
          case false.false | true.true =>
            have HN : Hid (∀ k a b, k < j + 1 → p[k]? = some a → q[k]? = some b → a = b) := fun k a' b' hk' h1 h2 => by
              by_cases e : k = j
              · subst e; rw [hs] at h1; rw [hu] at h2; cases h1; cases h2; exact ps_ext _ _ hk hat (by rw [hps, hpu])
              · exact HJ.out k a' b' (by omega) h1 h2
            clear hk hat hps hpu
            go_wp2_with fail
            go_quiet (fail)
            go_wp2_with fail
            go_roundw
            case rel => exact ⟨j + 1, val_int (by omega), hlt, HN, vdrew_bel hbw nq⟩
            case measure => simp [intOf]; omega
          case false.true | true.false =>
            have HF := hid (show r = false by rw [← Bool.not_eq_true, HR.out]; exact like_no hs hu (fun e => by rw [e, hpu] at hps; cases hps))
            clear HR HJ hs hu hps hpu
            go_wp2_with fail
            go_quiet (fail)
            go_wp2_with fail
            go_ret
            exact ⟨ret_bool HF.out.symm, vdrew_bel hbw nq⟩
        · have ta : (s.at_ != u.at_) = true := by simpa using hat
          have HF := hid (show r = false by rw [← Bool.not_eq_true, HR.out]; exact like_no hs hu (fun e => hat (by rw [e])))
          clear HR HJ hs hu
          go_wp2_with fail
          go_quiet (fail)
          go_wp2_with fail
          go_ret
          exact ⟨ret_bool HF.out.symm, vdrew_bel hbw nq⟩
      · have te := txt_no s.key u.key hk
        have HF := hid (show r = false by rw [← Bool.not_eq_true, HR.out]; exact like_no hs hu (fun e => hk (by rw [e])))
        clear HR HJ hs hu
        go_wp2_with fail
        go_quiet (fail)
        go_wp2_with fail
        go_ret
        exact ⟨ret_bool HF.out.symm, vdrew_bel hbw nq⟩
    · have HF := hid (show r = true by
        rw [HR.out]
        apply List.ext_getElem?
        intro k
        by_cases hk : k < p.length
        · have hk2 : k < q.length := by have := HL.out; omega
          rw [List.getElem?_eq_getElem hk, List.getElem?_eq_getElem hk2, HJ.out k p[k] q[k] (by omega) (List.getElem?_eq_getElem hk) (List.getElem?_eq_getElem hk2)]
        · rw [List.getElem?_eq_none (by omega), List.getElem?_eq_none (by have := HL.out; omega)])
      go_wp2_with fail
      go_ret
      exact ⟨ret_bool HF.out.symm, hbw⟩
end Go.Proofs.YtadbeodeiijhdaaGreatDoor
