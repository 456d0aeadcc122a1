import Derived.Test.YtjcejjejlekelaaGreatDoorPathOne
import Derived.Test.YtjcejjejlekelaaGreatDoorRefVal5
import Derived.Test.YtjcejjejlekelaaGreatDoorOrders
import Derived.Test.YtjcejjejlekelaaGreatDoorVBox
import Derived.Deep.AppendLies
import Derived.BigQuiet
/- The document's side: may a path be? -/
/- The document's side: a path as its own steps. -/
/- The document's side: are two paths alike? -/
namespace Go.Proofs.YtjcejjejlekelaaGreatDoor
open Go.RowKit

/-- a step may be -/
def stepOk (s : PStep) : Bool := if s.place = true then (s.key.toList.isEmpty && decide (0 ≤ s.at_ ∧ s.at_ ≤ 1000000000)) else (decide (s.at_ = 0) && strOkB s.key)
def pathOk (p : List PStep) : Bool := decide (p.length ≤ 50) && p.all stepOk
theorem ok_no {p : List PStep} {i : Nat} {s : PStep} (h : p[i]? = some s) (hs : stepOk s = false) : pathOk p = false := by
  unfold pathOk
  rw [show p.all stepOk = false from List.all_eq_false.2 ⟨s, List.mem_of_getElem? h, by rw [hs]; decide⟩, Bool.and_false]
set_option maxRecDepth 100000 in
set_option maxHeartbeats 2000000 in
theorem may_any (p : List PStep) (x : Value) (w : World) (hp : InP w p x) :
    Calls Tryz.prog 16 #[x] w fun e w' => e = .returned (.bool (pathOk p)) ∧ Below w.heap.size w w' := by
  obtain ⟨a, ⟨oa, ca, rfl, ha1, ha2, ha3⟩, hac⟩ := hp
  unfold maxLen at ha2
  have HA := hid hac
  clear hac
  by_cases h50 : p.length > 50
  · have HF := hid (show pathOk p = false by unfold pathOk; rw [decide_eq_false (by omega)]; rfl)
    go_enter Tryz.func16, Tryz.ntmps16
    go_wp2_with fail
    go_ret
    exact ⟨ret_bool HF.out.symm, Below.refl _ _⟩
  have HOK := hid (show pathOk p = p.all stepOk by unfold pathOk; rw [decide_eq_true (show p.length ≤ 50 by omega)]; rfl)
  go_enter Tryz.func16, Tryz.ntmps16
  go_wp2_with fail
  go_loopw [3] (fun i wr => ∃ j : Nat, i = .int .i64 j ∧ j ≤ p.length ∧ Hid (∀ k s, k < j → p[k]? = some s → stepOk s = true) ∧ Below w.heap.size w wr) (fun i _ => p.length - (intOf i).toNat)
  case atStart => exact ⟨0, rfl, Nat.zero_le _, fun k s h => absurd h (Nat.not_lt_zero _), Below.refl _ _⟩
  case round =>
    obtain ⟨j, rfl, hj, HJ, hbw⟩ := hrel
    by_cases hlt : j < p.length
    · obtain ⟨s, hs⟩ : ∃ s, p[j]? = some s := ⟨p[j], List.getElem?_eq_getElem hlt⟩
      obtain rfl := ha3 (by omega)
      obtain ⟨s0, s1, s2, s3⟩ := HA.out j s hs
      have t0 := keepCell hbw s0; have t1 := keepCell hbw s1; have t2 := keepCell hbw s2
      clear s0 s1 s2
      have HS := hid hs
      obtain ⟨key, at_, place⟩ := s
      simp only at t0 t1 t2 s3
      have HNEXT : Hid (stepOk ⟨key, at_, place⟩ = true → ∀ k s, k < j + 1 → p[k]? = some s → stepOk s = true) := fun hok k s hk hks => by
        by_cases e : k = j
        · subst e; rw [HS.out] at hks; cases hks; exact hok
        · exact HJ.out k s (by omega) hks
      clear hs
      cases place with
      | true =>
        cases he : key.toList.isEmpty with
        | false =>
          have HF := hid (ok_no HS.out (show stepOk ⟨key, at_, true⟩ = false by unfold stepOk; rw [if_pos rfl, he]; rfl))
          have hn0 : ¬ key.toList = [] := by intro hc; rw [hc] at he; cases he
          go_wp2_with fail
          all_goals go_ret
          all_goals exact ⟨ret_bool HF.out.symm, valloc_bel hbw _⟩
        | true =>
          by_cases h0 : at_ < 0
          · have HF := hid (ok_no HS.out (show stepOk ⟨key, at_, true⟩ = false by unfold stepOk; rw [if_pos rfl, decide_eq_false (show ¬ (0 ≤ at_ ∧ at_ ≤ 1000000000) by omega)]; simp))
            go_wp2_with fail
            all_goals go_ret
            all_goals exact ⟨ret_bool HF.out.symm, valloc_bel hbw _⟩
          · by_cases h9 : at_ > 1000000000
            · have HF := hid (ok_no HS.out (show stepOk ⟨key, at_, true⟩ = false by unfold stepOk; rw [if_pos rfl, decide_eq_false (show ¬ (0 ≤ at_ ∧ at_ ≤ 1000000000) by omega)]; simp))
              go_wp2_with fail
              all_goals go_ret
              all_goals exact ⟨ret_bool HF.out.symm, valloc_bel hbw _⟩
            · have hok : stepOk ⟨key, at_, true⟩ = true := by unfold stepOk; rw [if_pos rfl, he, decide_eq_true (show 0 ≤ at_ ∧ at_ ≤ 1000000000 by omega)]; rfl
              have HN := hid (HNEXT.out hok)
              clear hok
              go_wp2_with fail
              go_roundw
              case rel => exact ⟨j + 1, val_int (by omega), hlt, HN, valloc_bel hbw _⟩
              case measure => simp [intOf]; omega
      | false =>
        by_cases h0 : at_ = 0
        · have HSR := hid (fun X : World => str_any key X s3)
          subst h0
          cases hso : strOkB key with
          | true =>
            have hok : stepOk ⟨key, 0, false⟩ = true := by unfold stepOk; rw [if_neg (by simp), hso]; rfl
            have HN := hid (HNEXT.out hok)
            rw [hso] at HSR
            clear hok hso
            go_wp2_with (go_at_call 41; go_must (refine (HSR.out _).mono ?_; rintro e w3 ⟨rfl, hb3⟩))
            go_roundw
            case rel => exact ⟨j + 1, val_int (by omega), hlt, HN, vonto (valloc_bel hbw _) hb3⟩
            case measure => simp [intOf]; omega
          | false =>
            have HF := hid (ok_no HS.out (show stepOk ⟨key, 0, false⟩ = false by unfold stepOk; rw [if_neg (by simp), hso]; simp))
            rw [hso] at HSR
            clear hso
            go_wp2_with (go_at_call 41; go_must (refine (HSR.out _).mono ?_; rintro e w3 ⟨rfl, hb3⟩))
            go_ret
            exact ⟨ret_bool HF.out.symm, vonto (valloc_bel hbw _) hb3⟩
        · have HF := hid (ok_no HS.out (show stepOk ⟨key, at_, false⟩ = false by unfold stepOk; rw [if_neg (by simp), decide_eq_false h0]; rfl))
          have tz : (at_ != 0) = true := by simpa using h0
          go_wp2_with fail
          go_ret
          exact ⟨ret_bool HF.out.symm, valloc_bel hbw _⟩
    · have HF := hid (show pathOk p = true by
        rw [HOK.out, List.all_eq_true]
        intro s hs
        obtain ⟨k, hk⟩ := List.getElem?_of_mem hs
        exact HJ.out k s (by have := lt_of_some hk; omega) hk)
      go_wp2_with fail
      go_ret
      exact ⟨ret_bool HF.out.symm, hbw⟩
end Go.Proofs.YtjcejjejlekelaaGreatDoor
namespace Go.Proofs.YtjcejjejlekelaaGreatDoor
open Go.RowKit

theorem Tryz.infoStep : (Tryz.prog.info? 79).map (fun i => (i.zero, i.size, i.bytes)) = some (some (.agg #[.string ⟨#[]⟩, .int .i64 0, .bool false]), 3, 32) := by kernel_rfl
/-- a step's cells -/
def sc (s : PStep) : List Value := [.string s.key, .int .i64 s.at_, .bool s.place]
theorem sc_one (s : PStep) : ∀ u ∈ sc s, u.oneCell' = true := by
  intro u hu
  unfold sc at hu
  simp at hu
  rcases hu with rfl | rfl | rfl <;> rfl
/-- a slice of one's own that holds steps is a path -/
theorem own_inp {w : World} {base : Nat} {v : Value} {p : List PStep} {ty : TypeId} (h : w.ownsRow base ty 3 v p.length (p.flatMap sc)) (hp : ∀ s ∈ p, s.key.size ≤ maxLen) : InP w p v := by
  have hc := h
  rcases hc with ⟨-, ⟨rfl, h0⟩ | ⟨g, cap, cur, rfl, -, -, hn, hcm, -, -⟩⟩
  · have : p = [] := List.eq_nil_of_length_eq_zero h0
    subst this
    exact ⟨⟨0, 0, none⟩, ⟨none, 0, rfl, Nat.le_refl _, Nat.zero_le _, fun h => absurd h (by simp)⟩, fun i s h => by simp at h⟩
  have key : ∀ (i : Nat) (s : PStep), p[i]? = some s → ∀ (c : Nat) (u : Value), (sc s)[c]? = some u → w.cell? ⟨g, i * 3 + c, none⟩ = some u := by
    intro i s hs c u hu
    have hi := lt_of_some hs
    have hc : c < 3 := lt_of_some hu
    rw [h.cellAt (i * 3 + c) (by omega), flat_at sc 3 (fun _ => rfl) p i c s hs hc]
    exact hu
  refine ⟨⟨g, 0, none⟩, ⟨_, _, rfl, hn, hcm, fun _ => rfl⟩, fun i s hs => ?_⟩
  rw [add_at]
  exact ⟨key i s hs 0 _ rfl, key i s hs 1 _ rfl, key i s hs 2 _ rfl, hp s (List.mem_of_getElem? hs)⟩
set_option maxRecDepth 100000 in
set_option maxHeartbeats 2000000 in
theorem steps_any (p : List PStep) (x : Value) (w : World) (hp : InP w p x) (hl : p.length ≤ 1000000) :
    Calls Tryz.prog 17 #[x] w fun e w' => ∃ v, e = .returned v ∧ InP w' p v ∧ Below w.heap.size w w' := by
  obtain ⟨a, ⟨oa, ca, rfl, ha1, ha2, ha3⟩, hac⟩ := hp
  unfold maxLen at ha2
  have HA := hid hac
  clear hac
  obtain ⟨i1, hi', hz0', hz1', hz2'⟩ := info_parts Tryz.infoStep
  go_enter Tryz.func17, Tryz.ntmps17
  go_wp2_with fail
  go_loopw [3, 4] (fun v i wr => ∃ j : Nat, i = .int .i64 j ∧ j ≤ p.length ∧ Hid (wr.ownsRow w.heap.size 79 3 v j ((p.take j).flatMap sc)) ∧ Below w.heap.size w wr) (fun _ i _ => p.length - (intOf i).toNat)
  case atStart => exact ⟨0, rfl, Nat.zero_le _, World.ownsRow_nil _ _ _ _, Below.refl _ _⟩
  case round =>
    obtain ⟨j, rfl, hj, HO, hbw⟩ := hrel
    by_cases hlt : j < p.length
    · obtain ⟨s, hs⟩ : ∃ s, p[j]? = some s := ⟨p[j], List.getElem?_eq_getElem hlt⟩
      obtain rfl := ha3 (by omega)
      obtain ⟨s0, s1, s2, s3⟩ := HA.out j s hs
      have HK : Hid (∀ X, Below w.heap.size w X → X.cell? (a.add (j * 3)) = some (.string s.key) ∧ X.cell? ⟨(a.add (j * 3)).block, (a.add (j * 3)).off + 1, none⟩ = some (.int .i64 s.at_) ∧ X.cell? ⟨(a.add (j * 3)).block, (a.add (j * 3)).off + 2, none⟩ = some (.bool s.place)) := fun X hX => ⟨keepCell hX s0, keepCell hX s1, keepCell hX s2⟩
      have hsz := hbw.size
      have HT := hid (show p.take (j + 1) = p.take j ++ [s] by rw [List.take_add_one, hs]; rfl)
      clear s0 s1 s2 hs
      go_wp2_with fail
      refine wp_region_ends2 (S := fun X => X.cell? (a.add (j * 3)) = some (.string s.key) ∧ X.cell? ⟨(a.add (j * 3)).block, (a.add (j * 3)).off + 1, none⟩ = some (.int .i64 s.at_) ∧ X.cell? ⟨(a.add (j * 3)).block, (a.add (j * 3)).off + 2, none⟩ = some (.bool s.place)) (by simp) (by kernel_rfl) (by kernel_rfl) (by kernel_rfl) (by kernel_rfl) (by kernel_rfl) (by kernel_rfl) ?_
      simp only [List.dropLast, List.getLast_cons_cons, List.getLast_singleton, List.length_cons, List.length_nil]
      have hS0 := HK.out wr.drew hbw.drew
      refine take_h (i := 0) (v := ?_) rfl (by kernel_rfl) (by kernel_rfl) (by kernel_rfl) (fun _ _ _ h => h) (by rfl) ?_ hS0 ?_
      rotate_left
      · (intro X hX; go_simp; try with_reducible rfl)
      simp only [Act.put, List.setIfInBounds_toArray, List.set_cons_zero, List.set_cons_succ]
      refine take_h (i := 1) (v := ?_) rfl (by kernel_rfl) (by kernel_rfl) (by kernel_rfl) (fun _ _ _ h => h) (by rfl) ?_ hS0 ?_
      rotate_left
      · (intro X hX; go_simp; try with_reducible rfl)
      simp only [Act.put, List.setIfInBounds_toArray, List.set_cons_zero, List.set_cons_succ]
      refine take_h (i := 2) (v := ?_) rfl (by kernel_rfl) (by kernel_rfl) (by kernel_rfl) (fun _ _ _ h => h) (by rfl) ?_ hS0 ?_
      rotate_left
      · (intro X hX; go_simp; try with_reducible rfl)
      simp only [Act.put, List.setIfInBounds_toArray, List.set_cons_zero, List.set_cons_succ]
      refine take_h (i := 3) (v := ?_) rfl (by kernel_rfl) (by kernel_rfl) (by kernel_rfl) (fun _ _ _ h => h) (by rfl) ?_ hS0 ?_
      rotate_left
      · (intro X hX; go_simp; try with_reducible rfl)
      simp only [Act.put, List.setIfInBounds_toArray, List.set_cons_zero, List.set_cons_succ]
      refine take_h (i := 4) (v := ?_) rfl (by kernel_rfl) (by kernel_rfl) (by kernel_rfl) (fun _ _ _ h => h) (by rfl) ?_ hS0 ?_
      rotate_left
      · (intro X hX; go_simp; try with_reducible rfl)
      simp only [Act.put, List.setIfInBounds_toArray, List.set_cons_zero, List.set_cons_succ]
      refine take_h (i := 5) (v := ?_) rfl (by kernel_rfl) (by kernel_rfl) (by kernel_rfl) (fun _ _ _ h => h) (by rfl) ?_ hS0 ?_
      rotate_left
      · (intro X hX; go_simp; try with_reducible rfl)
      simp only [Act.put, List.setIfInBounds_toArray, List.set_cons_zero, List.set_cons_succ]
      refine take_h (i := 6) (v := ?_) rfl (by kernel_rfl) (by kernel_rfl) (by kernel_rfl) (fun _ _ _ h => h) (by rfl) ?_ hS0 ?_
      rotate_left
      · (intro X hX; go_simp; try with_reducible rfl)
      simp only [Act.put, List.setIfInBounds_toArray, List.set_cons_zero, List.set_cons_succ]
      refine take_h (i := 7) (v := ?_) rfl (by kernel_rfl) (by kernel_rfl) (by kernel_rfl) (fun _ _ _ h => h) (by rfl) ?_ hS0 ?_
      rotate_left
      · (intro X hX; go_simp; try with_reducible rfl)
      simp only [Act.put, List.setIfInBounds_toArray, List.set_cons_zero, List.set_cons_succ]
      refine take_h (i := 8) (v := ?_) rfl (by kernel_rfl) (by kernel_rfl) (by kernel_rfl) (fun _ _ _ h => h) (by rfl) ?_ hS0 ?_
      rotate_left
      · (intro X hX; go_simp; try with_reducible rfl)
      simp only [Act.put, List.setIfInBounds_toArray, List.set_cons_zero, List.set_cons_succ]
      refine take_h (i := 9) (v := ?_) rfl (by kernel_rfl) (by kernel_rfl) (by kernel_rfl) (fun _ _ _ h => h) (by rfl) ?_ hS0 ?_
      rotate_left
      · (intro X hX; go_simp; try with_reducible rfl)
      simp only [Act.put, List.setIfInBounds_toArray, List.set_cons_zero, List.set_cons_succ]
      refine take_h (i := 10) (v := ?_) rfl (by kernel_rfl) (by kernel_rfl) (by kernel_rfl) (fun _ _ _ h => h) (by rfl) ?_ hS0 ?_
      rotate_left
      · (intro X hX; go_simp; try with_reducible rfl)
      simp only [Act.put, List.setIfInBounds_toArray, List.set_cons_zero, List.set_cons_succ]
      refine take_h (i := 11) (v := ?_) rfl (by kernel_rfl) (by kernel_rfl) (by kernel_rfl) (fun _ _ _ h => h) (by rfl) ?_ hS0 ?_
      rotate_left
      · (intro X hX; go_simp; try with_reducible rfl)
      simp only [Act.put, List.setIfInBounds_toArray, List.set_cons_zero, List.set_cons_succ]
      refine take_h (i := 12) (v := ?_) rfl (by kernel_rfl) (by kernel_rfl) (by kernel_rfl) (fun _ _ _ h => h) (by rfl) ?_ hS0 ?_
      rotate_left
      · (intro X hX; go_simp; try with_reducible rfl)
      simp only [Act.put, List.setIfInBounds_toArray, List.set_cons_zero, List.set_cons_succ]
      refine take_h (i := 13) (v := ?_) rfl (by kernel_rfl) (by kernel_rfl) (by kernel_rfl) (fun _ _ _ h => h) (by rfl) ?_ hS0 ?_
      rotate_left
      · (intro X hX; go_simp; try with_reducible rfl)
      simp only [Act.put, List.setIfInBounds_toArray, List.set_cons_zero, List.set_cons_succ]
      refine take_h (i := 14) (v := ?_) rfl (by kernel_rfl) (by kernel_rfl) (by kernel_rfl) (fun _ _ _ h => h) (by rfl) ?_ hS0 ?_
      rotate_left
      · (intro X hX; go_simp; try with_reducible rfl)
      simp only [Act.put, List.setIfInBounds_toArray, List.set_cons_zero, List.set_cons_succ]
      refine take_h (i := 15) (v := ?_) rfl (by kernel_rfl) (by kernel_rfl) (by kernel_rfl) (fun _ _ _ h => h) (by rfl) ?_ hS0 ?_
      rotate_left
      · (intro X hX; go_simp; try with_reducible rfl)
      simp only [Act.put, List.setIfInBounds_toArray, List.set_cons_zero, List.set_cons_succ]
      refine take_h (i := 16) (v := ?_) rfl (by kernel_rfl) (by kernel_rfl) (by kernel_rfl) (fun _ _ _ h => h) (by rfl) ?_ hS0 ?_
      rotate_left
      · (intro X hX; go_simp; try with_reducible rfl)
      simp only [Act.put, List.setIfInBounds_toArray, List.set_cons_zero, List.set_cons_succ]
      refine step_h (i := 17) rfl (by kernel_rfl) ?_
      intro KK hKK
      go_simp
      refine hKK.out _ _ (HK.out _ (valloc_bel hbw.drew _)) (fun hS2 => ?_)
      clear hKK KK hS0
      refine step_h (i := 18) rfl (by kernel_rfl) ?_
      intro KK hKK
      refine step_append_lies _ (by rfl) _ _ _ (by rfl) w.heap.size 79 i1 (.agg #[.string ⟨#[]⟩, .int .i64 0, .bool false]) 3 32 Tryz.underlying41 hi' hz0' hz1' hz2' rfl (by decide) _ j _ (by rfl) (HO.out.drew.alloc _) ⟨wr.heap.size, 0, none⟩ 1 1 (sc s) (by rfl) rfl (new_cells wr.drew _ 79) (sc_one s) (by decide) (by unfold maxLen; omega) (by omega) (by simp; omega) (wr.heap.size + 1) (by simp) ?_
      intro g9 cap9 w9 hown9 hgr9 hat9 hlt9
      have hb9 : Below w.heap.size w w9 := (valloc_bel hbw.drew _).grown hgr9 (by simp; omega) (fun q hq => (HO.out.lt q hq).1)
      refine hKK.out _ _ (HK.out _ hb9) (fun hS3 => ?_)
      clear hKK KK hS2 hS3
      simp only [Act.put, List.setIfInBounds_toArray, List.set_cons_zero, List.set_cons_succ]
      refine wpAnyH_done (by kernel_rfl) ?_ _
      change Oper.wp _ _ _ _ _ _
      go_simp
      go_wp2_with fail
      go_roundw
      case rel => exact ⟨j + 1, val_int (by omega), hlt, hid (by rw [HT.out, List.flatMap_append]; simpa using hown9), hb9⟩
      case measure => simp [intOf]; omega
    · have hjp : j = p.length := by omega
      subst hjp
      have HI := hid (own_inp (w := wr) (p := p) (by have := HO.out; rw [List.take_length] at this; exact this) (fun s hs => by obtain ⟨i, hi⟩ := List.getElem?_of_mem hs; exact (HA.out i s hi).2.2.2))
      go_wp2_with fail
      go_ret
      exact ⟨_, rfl, HI.out, hbw⟩
end Go.Proofs.YtjcejjejlekelaaGreatDoor
namespace Go.Proofs.YtjcejjejlekelaaGreatDoor
open Go.RowKit

theorem ps_ext (a b : PStep) (h1 : a.key.data.toList = b.key.data.toList) (h2 : a.at_ = b.at_) (h3 : a.place = b.place) : a = b := by
  obtain ⟨ka, pa, ba⟩ := a
  obtain ⟨kb, pb, bb⟩ := b
  simp only at h1 h2 h3
  have hk : ka = kb := by rw [mkS_of ka _ rfl, mkS_of kb _ rfl, h1]
  rw [hk, h2, h3]
theorem like_no {p q : List PStep} {i : Nat} {a b : PStep} (ha : p[i]? = some a) (hb : q[i]? = some b) (h : ¬ a = b) : ¬ p = q := fun e => by subst e; rw [ha] at hb; cases hb; exact h rfl
set_option maxRecDepth 100000 in
set_option maxHeartbeats 2000000 in
theorem psame_any (p q : List PStep) (x y : Value) (w : World) (hp : InP w p x) (hq : InP w q y) (r : Bool) (hr : r = true ↔ p = q) :
    Calls Tryz.prog 21 #[x, y] w fun e w' => e = .returned (.bool r) ∧ Below w.heap.size w w' := by
  obtain ⟨a, ⟨oa, ca, rfl, ha1, ha2, ha3⟩, hac⟩ := hp
  obtain ⟨b, ⟨ob, cb, rfl, hb1, hb2, hb3⟩, hbc⟩ := hq
  unfold maxLen at ha2 hb2
  have HA := hid hac
  have HB := hid hbc
  have HR := hid hr
  clear hac hbc hr
  by_cases hlen : p.length = q.length
  case neg =>
    have HF := hid (show r = false by rw [← Bool.not_eq_true, HR.out]; intro e; exact hlen (by rw [e]))
    have tz : ((p.length : Int) != q.length) = true := by simp; omega
    go_enter Tryz.func21, Tryz.ntmps21
    go_wp2_with fail
    go_ret
    exact ⟨ret_bool HF.out.symm, Below.refl _ _⟩
  have HL := hid hlen
  have tz : ((p.length : Int) != q.length) = false := by simp; omega
  clear hlen
  go_enter Tryz.func21, Tryz.ntmps21
  go_wp2_with fail
  go_loopw [5] (fun i wr => ∃ j : Nat, i = .int .i64 j ∧ j ≤ p.length ∧ Hid (∀ k a b, k < j → p[k]? = some a → q[k]? = some b → a = b) ∧ Below w.heap.size w wr) (fun i _ => p.length - (intOf i).toNat)
  case atStart => exact ⟨0, rfl, Nat.zero_le _, fun k a b h => absurd h (Nat.not_lt_zero _), Below.refl _ _⟩
  case round =>
    obtain ⟨j, rfl, hj, HJ, hbw⟩ := hrel
    by_cases hlt : j < p.length
    · have hlt2 : j < q.length := by have := HL.out; omega
      obtain ⟨s, hs⟩ : ∃ s, p[j]? = some s := ⟨p[j], List.getElem?_eq_getElem hlt⟩
      obtain ⟨u, hu⟩ : ∃ u, q[j]? = some u := ⟨q[j], List.getElem?_eq_getElem hlt2⟩
      obtain rfl := ha3 (by omega)
      obtain rfl := hb3 (by omega)
      obtain ⟨s0, s1, s2, s3⟩ := HA.out j s hs
      obtain ⟨u0, u1, u2, u3⟩ := HB.out j u hu
      have t0 := keepCell hbw s0; have t1 := keepCell hbw s1; have t2 := keepCell hbw s2
      have v0 := keepCell hbw u0; have v1 := keepCell hbw u1; have v2 := keepCell hbw u2
      clear s0 s1 s2 u0 u1 u2
      have hltI : (j : Int) < q.length := by omega
      by_cases hk : s.key.data.toList = u.key.data.toList
      · have te := txt_is s.key u.key hk
        by_cases hat : s.at_ = u.at_
        · have ta : (s.at_ != u.at_) = false := by simpa using hat
          cases hps : s.place <;> cases hpu : u.place
          all_goals rw [hps] at t2
          all_goals rw [hpu] at v2
          case false.false | true.true =>
            have HN : Hid (∀ k a b, k < j + 1 → p[k]? = some a → q[k]? = some b → a = b) := fun k a' b' hk' h1 h2 => by
              by_cases e : k = j
              · subst e; rw [hs] at h1; rw [hu] at h2; cases h1; cases h2; exact ps_ext _ _ hk hat (by rw [hps, hpu])
              · exact HJ.out k a' b' (by omega) h1 h2
            clear hk hat hps hpu
            go_wp2_with fail
            go_quiet (fail)
            go_wp2_with fail
            go_roundw
            case rel => exact ⟨j + 1, val_int (by omega), hlt, HN, vdrew_bel hbw nq⟩
            case measure => simp [intOf]; omega
          case false.true | true.false =>
            have HF := hid (show r = false by rw [← Bool.not_eq_true, HR.out]; exact like_no hs hu (fun e => by rw [e, hpu] at hps; cases hps))
            clear HR HJ hs hu hps hpu
            go_wp2_with fail
            go_quiet (fail)
            go_wp2_with fail
            go_ret
            exact ⟨ret_bool HF.out.symm, vdrew_bel hbw nq⟩
        · have ta : (s.at_ != u.at_) = true := by simpa using hat
          have HF := hid (show r = false by rw [← Bool.not_eq_true, HR.out]; exact like_no hs hu (fun e => hat (by rw [e])))
          clear HR HJ hs hu
          go_wp2_with fail
          go_quiet (fail)
          go_wp2_with fail
          go_ret
          exact ⟨ret_bool HF.out.symm, vdrew_bel hbw nq⟩
      · have te := txt_no s.key u.key hk
        have HF := hid (show r = false by rw [← Bool.not_eq_true, HR.out]; exact like_no hs hu (fun e => hk (by rw [e])))
        clear HR HJ hs hu
        go_wp2_with fail
        go_quiet (fail)
        go_wp2_with fail
        go_ret
        exact ⟨ret_bool HF.out.symm, vdrew_bel hbw nq⟩
    · have HF := hid (show r = true by
        rw [HR.out]
        apply List.ext_getElem?
        intro k
        by_cases hk : k < p.length
        · have hk2 : k < q.length := by have := HL.out; omega
          rw [List.getElem?_eq_getElem hk, List.getElem?_eq_getElem hk2, HJ.out k p[k] q[k] (by omega) (List.getElem?_eq_getElem hk) (List.getElem?_eq_getElem hk2)]
        · rw [List.getElem?_eq_none (by omega), List.getElem?_eq_none (by have := HL.out; omega)])
      go_wp2_with fail
      go_ret
      exact ⟨ret_bool HF.out.symm, hbw⟩
end Go.Proofs.YtjcejjejlekelaaGreatDoor
