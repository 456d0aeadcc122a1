/- Package dec, walked: Good, Whole; the sizes of two numbers compared. -/
import Derived.Test.YtnpojefcibfgkaaGreatDoorDecC
import Derived.Test.YtnpojefcibfgkaaGreatDoorMathDecAll
import Derived.Deep.RegionWith
import Derived.StillTailTactics
namespace Go.Proofs.YtnpojefcibfgkaaGreatDoor
open Go.RowKit

set_option maxRecDepth 100000 in
set_option maxHeartbeats 400000 in
theorem dgood_max (s : ByteArray) (w : World) (hs : s.size ≤ maxLen) :
    Calls Tryz.prog 39 #[.string s] w fun e w' => e = .returned (.bool (numB s.data.toList)) ∧ Below w.heap.size w w' := by
  go_enter Tryz.func39, Tryz.ntmps39
  go_wp2_with (go_at_call 61; go_must (refine (read_any _ _ hs).mono ?_; rintro e w' ⟨rfl, hb⟩; unfold rdV rdA))
  go_ret
  exact ⟨rfl, alloc_bel hb _⟩
/-- cmp.Compare of two texts -/
def cmpS (d e : List UInt8) : Int := if ltB d e then -1 else if ltB e d then 1 else 0
def cmpZ (n m : Int) : Int := if n < m then -1 else if m < n then 1 else 0
set_option maxRecDepth 100000 in
set_option maxHeartbeats 400000 in
theorem cmps_any (a b : ByteArray) (w : World) :
    Calls Tryz.prog 95 #[.string a, .string b] w fun e w' => e = .returned (.int .i64 (cmpS a.data.toList b.data.toList)) ∧ w' = w := by
  rcases ltB_tri a.data.toList b.data.toList with ⟨h1, h2, h3⟩ | h | ⟨h1, h2, h3⟩
  · have H := hid (show cmpS a.data.toList b.data.toList = -1 by unfold cmpS; rw [h1]; rfl)
    have g : Op.bytesLess a.toList b.toList = true := by rw [Lib.toList_data, Lib.toList_data]; exact h1
    clear h1 h2 h3
    go_enter Tryz.func95, Tryz.ntmps95
    go_wp2
    go_ret
    exact ⟨ret_int H.out.symm, rfl⟩
  · have H := hid (show cmpS a.data.toList b.data.toList = 0 by unfold cmpS; rw [h, ltB_irr]; rfl)
    have g : Op.bytesLess a.toList b.toList = false := by rw [Lib.toList_data, Lib.toList_data, h]; exact ltB_irr _
    have g2 : (a.toList == b.toList) = true := by rw [Lib.toList_data, Lib.toList_data, h]; exact beq_self_eq_true _
    clear h
    go_enter Tryz.func95, Tryz.ntmps95
    go_wp2
    go_ret
    exact ⟨ret_int H.out.symm, rfl⟩
  · have H := hid (show cmpS a.data.toList b.data.toList = 1 by unfold cmpS; rw [h1, h2]; rfl)
    have g : Op.bytesLess a.toList b.toList = false := by rw [Lib.toList_data, Lib.toList_data]; exact h1
    have g2 : (a.toList == b.toList) = false := by rw [Lib.toList_data, Lib.toList_data]; exact beq_eq_false_iff_ne.2 h3
    clear h1 h2 h3
    go_enter Tryz.func95, Tryz.ntmps95
    go_wp2
    go_ret
    exact ⟨ret_int H.out.symm, rfl⟩
def orI (x y : Int) : Int := if x = 0 then y else x
set_option maxRecDepth 100000 in
set_option maxHeartbeats 400000 in
theorem or_any (b : Nat) (x y : Int) (w : World) (h0 : w.cell? ⟨b, 0, none⟩ = some (.int .i64 x)) (h1 : w.cell? ⟨b, 1, none⟩ = some (.int .i64 y)) :
    Calls Tryz.prog 94 #[.slice (some ⟨b, 0, none⟩) 2 2] w fun e w' => e = .returned (.int .i64 (orI x y)) ∧ w' = w := by
  by_cases hx : x = 0
  · by_cases hy : y = 0
    · subst hx hy
      go_enter Tryz.func94, Tryz.ntmps94
      go_wp2_with fail
      go_loop [8] (fun v => v = .int .i64 0 ∨ v = .int .i64 1 ∨ v = .int .i64 2) (fun v => 2 - (intOf v).toNat)
      case atStart => exact Or.inl rfl
      case round =>
        rcases hrel with rfl | rfl | rfl
        · go_wp2_with fail
          go_round
          case rel => exact Or.inr (Or.inl rfl)
          case measure => simp [intOf]
        · go_wp2_with fail
          go_round
          case rel => exact Or.inr (Or.inr rfl)
          case measure => simp [intOf]
        · go_wp2_with fail
          go_ret
          exact ⟨rfl, rfl⟩
    · have g : (y != 0) = true := by simpa using hy
      have H := hid (show orI x y = y by unfold orI; rw [if_pos hx])
      subst hx
      go_enter Tryz.func94, Tryz.ntmps94
      go_wp2_with fail
      go_loop [8] (fun v => v = .int .i64 0 ∨ v = .int .i64 1) (fun v => 2 - (intOf v).toNat)
      case atStart => exact Or.inl rfl
      case round =>
        rcases hrel with rfl | rfl
        · go_wp2_with fail
          go_round
          case rel => exact Or.inr rfl
          case measure => simp [intOf]
        · go_wp2_with fail
          go_ret
          exact ⟨ret_int H.out.symm, rfl⟩
  · have g : (x != 0) = true := by simpa using hx
    have H := hid (show orI x y = x by unfold orI; rw [if_neg hx])
    clear hx
    go_enter Tryz.func94, Tryz.ntmps94
    go_wp2_with fail
    go_loop [8] (fun v => v = .int .i64 0) (fun v => 2 - (intOf v).toNat)
    case atStart => rfl
    case round =>
      subst hrel
      go_wp2_with fail
      go_ret
      exact ⟨ret_int H.out.symm, rfl⟩
theorem region_tail {P : Program} {id : Nat} {Q : Exit → Act → World → Prop} {a : Act} {w : World} {l : List Oper} (n : Nat) (hm : P.follows .mixedOrders = true) (hB : Region.lexTailB .any l.toArray n = true)
    (h : wpStill P l.toArray (w.drewN 1) (fun a' => wpList P l.toArray Q (l.drop n) a' (w.drewN 1)) (l.take n) a) : (Code.region id l.toArray true).wp P Q a w := wp_region_still_tail n hm hB h
theorem cmpz_any (x y : Int) (w : World) :
    Calls Tryz.prog 67 #[.int .i64 x, .int .i64 y] w fun e w' => e = .returned (.int .i64 (cmpZ x y)) ∧ w' = w := Tryz.cmp_Compare_int x y w
set_option maxRecDepth 100000 in
set_option maxHeartbeats 1000000 in
theorem sizes_any (i n j m : Int) (d e : ByteArray) (w : World) :
    Calls Tryz.prog 68 #[.agg #[.int .i64 i, .string d, .int .i64 n], .agg #[.int .i64 j, .string e, .int .i64 m]] w fun r w' => r = .returned (.int .i64 (orI (cmpZ n m) (cmpS d.data.toList e.data.toList))) ∧ Below w.heap.size w w' := by
  have cz := hid (fun w => cmpz_any n m w)
  have cs := hid (fun w => cmps_any d e w)
  generalize cmpZ n m = x at cz ⊢
  generalize cmpS d.data.toList e.data.toList = y at cs ⊢
  go_enter Tryz.func68, Tryz.ntmps68
  go_wp2_with fail
  refine region_tail 10 (by kernel_rfl) (by kernel_rfl) ?_
  simp only [List.take_succ_cons, List.take_zero, List.drop_succ_cons, List.drop_zero]
  still_step
  still_step
  still_step
  still_step
  still_call (cz.out _)
  still_step
  still_step
  still_step
  still_step
  still_call (cs.out _)
  refine wpStill_nil ?_
  go_wp2_with (go_at_call 94; go_must (refine (or_any _ x y _ (by simp [go_sem]) (by simp [go_sem])).mono ?_; rintro r w3 ⟨rfl, hw⟩; obtain rfl := hw.symm))
  go_ret
  refine ⟨rfl, ?_⟩
  repeat (first | exact Below.refl _ _ | apply below_drewN | apply alloc_bel)
theorem num_wh (l : List UInt8) (h : numB l = true) : (scD l = [] → rdS l = 0 ∧ wholeB l = true) ∧ (¬ scD l = [] → ¬ rdS l = 0 ∧ wholeB l = decide (((rdD l).length : Int) - 1 ≤ rdT l)) := by
  unfold rdS rdD rdT wholeB; rw [h, if_pos rfl, if_pos rfl, if_pos rfl, Bool.true_and]
  constructor
  · intro e; exact ⟨by unfold sgI; rw [if_pos e], by rw [decide_eq_true e]; rfl⟩
  · intro e; refine ⟨?_, by rw [decide_eq_false e, Bool.false_or]⟩
    unfold sgI; rw [if_neg e]; split <;> decide
end Go.Proofs.YtnpojefcibfgkaaGreatDoor
