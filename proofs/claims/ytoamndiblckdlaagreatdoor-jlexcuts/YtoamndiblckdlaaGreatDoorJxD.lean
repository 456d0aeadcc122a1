/- strings.IndexRune and ContainsRune at the ten digits; jlex.nought: walked. -/
import Derived.Test.YtoamndiblckdlaaGreatDoorJxA
import Derived.Lib.OthersKept
import Derived.Deep.LoopGhost
import Derived.Deep.QuietTactic
import Derived.BigQuiet
import Derived.WalkMore
import Derived.Laws.Runes
namespace Go.Proofs.YtoamndiblckdlaaGreatDoor
open Go.RowKit

theorem ten_lt : ∀ (l : List UInt8), (∀ x ∈ l, x.toNat < 128) → ∀ c : UInt8, 128 ≤ c.toNat → Lib.indexByte l c = -1
  | [], _, _, _ => rfl
  | b :: l, h, c, hc => by
    have h1 : (b == c) = false := by
      rw [beq_eq_false_iff_ne]; rintro rfl
      have := h b (by simp); omega
    unfold Lib.indexByte
    rw [h1, ten_lt l (fun x hx => h x (by simp [hx])) c hc]; rfl
theorem ten_ix (T : ByteArray) (hA : ∀ k (h : k < T.size), T[k].toNat < 128) (k j : Nat) (c : UInt8) (hc : 128 ≤ c.toNat) (X : World) :
    Calls Tryz.prog 44 #[.string (T.extract k j), .int .u8 (c.toNat : Int)] X fun e w' => e = .returned (.int .i64 (-1)) ∧ w' = X := by
  have := Tryz.strings_IndexByte (T.extract k j) (c.toNat : Int) X
  have e : ((c.toNat : Int).toNat).toUInt8 = c := by simp
  rw [e, ten_lt _ (fun x hx => ?_) c hc] at this
  · exact this
  · have hm := mem_extract hx
    obtain ⟨i, hi, rfl⟩ := List.getElem_of_mem hm
    exact hA i (by rw [size_list] at hi; exact hi)
set_option maxRecDepth 100000 in
set_option maxHeartbeats 2000000 in
theorem irune_wide (T : ByteArray) (hT : T.size = 10) (hA : ∀ k (h : k < T.size), T[k].toNat < 128) (r : Nat) (w : World) (h1 : 128 ≤ r) (h2 : r ≤ 1114111) :
    Calls Tryz.prog 89 #[.string T, .int .i32 (r : Int)] w fun e w' => e = .returned (.int .i64 (-1)) ∧ Below w.heap.size w w' := by
  have g1 : ¬ ((r : Int) < 128) := by omega
  have g0 : (0 : Int) ≤ (r : Int) := by omega
  by_cases h5 : r = 65533
  · have h6 : ((r : Int) == 65533) = true := by rw [beq_iff_eq]; omega
    have HA := hid hA
    have HT := hid hT
    clear hA hT
    go_enter Tryz.func89, Tryz.ntmps89
    go_wp2_with fail
    go_loopg [] 10 (fun gk wx => ∃ k : Nat, k ≤ 10 ∧ 10 ≤ k + gk ∧ wx.heap[w.heap.size]? = some (.stringIter T k) ∧ Hid (Below w.heap.size w wx))
    case atStart => exact ⟨0, Nat.zero_le _, by omega, World.iter_heap w _ 0, (Below.refl _ _).alloc (Nat.le_refl _) _⟩
    case round =>
      obtain ⟨k, hk, hg, hit, HB⟩ := hrel
      by_cases hlt : k < T.size
      · have hlt10 : k < 10 := by rw [HT.out] at hlt; exact hlt
        have ha := HA.out k hlt
        have hnx : ∀ ty, (Instr.next (.pointer (some ⟨w.heap.size, 0, none⟩)) true ty).run Tryz.prog wr = _ := fun ty => Lib.run_next_ascii_at wr w.heap.size _ k ty hit hlt ha
        have HB2 := hid (Lib.below_iterAt HB.out (k := w.heap.size) (Nat.le_refl _) T (k + 1))
        have HI2 := hid (Lib.iterAt_heap wr w.heap.size _ k (k + 1) hit)
        obtain ⟨g', rfl⟩ : ∃ g', gk = g' + 1 := ⟨gk - 1, by omega⟩
        have h7 : ((T[k].toNat : Int) == 65533) = false := by rw [beq_eq_false_iff_ne]; omega
        clear hit HB
        go_wp2_with fail
        go_roundg g'
        case measure => omega
        case rel => exact ⟨k + 1, hlt10, by omega, HI2.out, HB2.out⟩
      · have hnx : ∀ ty, (Instr.next (.pointer (some ⟨w.heap.size, 0, none⟩)) true ty).run Tryz.prog wr = _ := fun ty => Lib.run_next_end_at wr w.heap.size _ k ty hit hlt
        clear hit
        go_wp2_with fail
        go_ret
        exact ⟨rfl, HB.out⟩
  · have h6 : ((r : Int) == 65533) = false := by rw [beq_eq_false_iff_ne]; omega
    have CV := hid (fun X => Tryz.utf8_ValidRune (r : Int) X)
    obtain ⟨v, hv⟩ : ∃ v, Lib.validRune (r : Int) = v := ⟨_, rfl⟩
    rw [hv] at CV
    cases v with
    | false =>
      go_enter Tryz.func89, Tryz.ntmps89
      go_wp2_with (go_at_call 111; go_must (refine (CV.out _).mono ?_; rintro e w1 ⟨rfl, rfl⟩))
      go_ret
      exact ⟨rfl, Below.refl _ _⟩
    | true =>
      obtain ⟨z2, z4, hl⟩ := encode_facts (r : Int) (by rw [validRune_eq]; exact hv) (by omega)
      clear hv
      obtain ⟨m, hm⟩ : ∃ m, Utf8.encode (r : Int) = m := ⟨_, rfl⟩
      rw [hm] at z2 z4
      have hl2 : ∀ k (h : k < m.size), k + 1 = m.size → 128 ≤ m[k].toNat := by
        rw [← hm]
        intro k h hk
        have e : (Utf8.encode (r : Int)).size - 1 = k := by omega
        simp only [e] at hl
        exact hl h
      clear hl
      obtain ⟨l, hl⟩ : ∃ l, m.size = l + 1 := ⟨m.size - 1, by omega⟩
      have z1 : 1 ≤ l ∧ l ≤ 3 := by omega
      clear z2 z4
      obtain ⟨z1, z3⟩ := z1
      have hlt : l < m.size := by omega
      have hb := hl2 l hlt (by omega)
      have hlT : l < T.size := by omega
      have ha := hA l hlT
      have hb2 : ((T[l].toNat : Int) != (m[l].toNat : Int)) = true := by rw [bne_iff_ne]; omega
      have CI := hid (fun X => ten_ix T hA (l + 1) T.size m[l] hb X)
      clear hl2 hA
      go_enter Tryz.func89, Tryz.ntmps89
      go_wp2_with (go_at_call 111; go_must (refine (CV.out _).mono ?_; rintro e w1 ⟨rfl, rfl⟩))
      go_step3
      go_wp2_with fail
      go_loopw [9] (fun i wx => i = .int .i64 (l : Int) ∧ wx = w1) (fun _ _ => 0)
      case atStart => exact ⟨val_int (by omega), rfl⟩
      case round =>
        obtain ⟨rfl, rfl⟩ := hrel
        have HL := hid hl
        have hT10 : T.size ≤ 10 := by omega
        clear hl hT hm h5 z3 z1 h1 h2 hb ha
        go_wp2_with fail
        go_step3
        go_wp2_with fail
        go_quiet (fail)
        go_wp2_with fail
        go_quiet ((go_at_call 44; exact (CI.out _).mono (by rintro e w5 ⟨rfl, rfl⟩; exact ⟨rfl, _, rfl⟩)))
        go_wp2_with fail
        rw [Exit.noGoto_ret]
        go_wp2_with fail
        rw [Exit.noGoto_ret]
        go_wp2_with fail
        go_ret
        exact ⟨rfl, below_drewN (Below.refl _ _) _⟩
/-- nought for each digit, any other letter as it is -/
def nouI (x : Int) : Int := if 48 ≤ x ∧ x ≤ 57 then 48 else x
theorem ten_ascii : ∀ n, n < 128 → (decide (0 ≤ Lib.indexByte (⟨#[48, 49, 50, 51, 52, 53, 54, 55, 56, 57]⟩ : ByteArray).data.toList (Int.toNat ((n : Nat) : Int)).toUInt8)) = decide (48 ≤ n ∧ n ≤ 57) := by decide +kernel
set_option maxRecDepth 100000 in
set_option maxHeartbeats 1000000 in
theorem crune_ten (r : Nat) (w : World) (h2 : r ≤ 1114111) :
    Calls Tryz.prog 101 #[.string ⟨#[48, 49, 50, 51, 52, 53, 54, 55, 56, 57]⟩, .int .i32 (r : Int)] w fun e w' => e = .returned (.bool (decide (48 ≤ r ∧ r ≤ 57))) ∧ Below w.heap.size w w' := by
  obtain ⟨T, hT⟩ : ∃ T, (⟨#[48, 49, 50, 51, 52, 53, 54, 55, 56, 57]⟩ : ByteArray) = T := ⟨_, rfl⟩
  by_cases h : r < 128
  · have C := hid (fun X => Tryz.strings_IndexRune_ascii T (r : Int) X (by omega) (by omega))
    have e := ten_ascii r h
    rw [hT] at e ⊢
    obtain ⟨R, hR⟩ : ∃ R, Lib.indexByte T.data.toList ((r : Int)).toNat.toUInt8 = R := ⟨_, rfl⟩
    rw [hR] at C e
    have HE := hid e
    clear hR hT e
    go_enter Tryz.func101, Tryz.ntmps101
    go_wp2_with (go_at_call 89; go_must (refine (C.out _).mono ?_; rintro e w1 ⟨rfl, rfl⟩))
    go_ret
    exact ⟨ret_bool HE.out, Below.refl _ _⟩
  · have C := hid (fun X => irune_wide T (by rw [← hT]; rfl) (by subst hT; decide) r X (by omega) h2)
    have HE := hid (show decide (48 ≤ r ∧ r ≤ 57) = false from decide_eq_false (by omega))
    rw [hT]
    clear hT
    go_enter Tryz.func101, Tryz.ntmps101
    go_wp2_with (go_at_call 89; go_must (refine (C.out _).mono ?_; rintro e w1 ⟨rfl, hb⟩))
    go_ret
    exact ⟨ret_bool HE.out.symm, hb⟩
set_option maxRecDepth 100000 in
set_option maxHeartbeats 1000000 in
theorem nought_any (r : Nat) (w : World) (h2 : r ≤ 1114111) :
    Calls Tryz.prog 78 #[.int .i32 (r : Int)] w fun e w' => e = .returned (.int .i32 (nouI r)) ∧ Below w.heap.size w w' := by
  have C := hid (fun X => crune_ten r X h2)
  by_cases h : 48 ≤ r ∧ r ≤ 57
  · have HE := hid (show nouI r = 48 by unfold nouI; rw [if_pos (by omega)])
    rw [decide_eq_true h] at C
    go_enter Tryz.func78, Tryz.ntmps78
    go_wp2_with (go_at_call 101; go_must (refine (C.out _).mono ?_; rintro e w1 ⟨rfl, hb⟩))
    go_ret
    exact ⟨ret_int HE.out.symm, hb⟩
  · have HE := hid (show nouI r = r by unfold nouI; rw [if_neg (by omega)])
    rw [decide_eq_false h] at C
    clear h
    go_enter Tryz.func78, Tryz.ntmps78
    go_wp2_with (go_at_call 101; go_must (refine (C.out _).mono ?_; rintro e w1 ⟨rfl, hb⟩))
    go_ret
    exact ⟨ret_int HE.out.symm, hb⟩
end Go.Proofs.YtoamndiblckdlaaGreatDoor
