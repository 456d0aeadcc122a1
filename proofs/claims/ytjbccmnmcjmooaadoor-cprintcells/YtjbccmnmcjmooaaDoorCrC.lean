import Derived.Test.YtjbccmnmcjmooaaDoorCrB
import Derived.Test.YtjbccmnmcjmooaaDoorOrders
import Derived.Test.YtjbccmnmcjmooaaDoorOwnB
import Derived.WalkSmall
import Derived.Defers
import Derived.Recover
import Derived.Deep.DeepCutAuto
/- cread's reader: its memory; a fault, what is ahead, a field without quotes. -/
namespace Go.Proofs.YtjbccmnmcjmooaaDoor
open Go.RowKit

/-- cread's reader in memory: the text, where it goes on -/
structure Cr (w : World) (b : Nat) (t : ByteArray) (k : Nat) : Prop where
  r0 : w.cell? ⟨b, 0, none⟩ = some (.string t)
  r1 : w.cell? ⟨b, 1, none⟩ = some (.int .i64 (k : Int))
  row : Row w b 60 2
theorem Cr.onto {w w' : World} {b : Nat} {t : ByteArray} {k : Nat} (h : Cr w b t k) (hb : Below w.heap.size w w') : Cr w' b t k :=
  ⟨keepCell hb h.r0, keepCell hb h.r1, h.row.onto (hb.block b h.row.lt)⟩
theorem Cr.set1 {w : World} {b : Nat} {t : ByteArray} {k : Nat} (h : Cr w b t k) (k' : Nat) : Cr (w.setCell ⟨b, 1, none⟩ (.int .i64 (k' : Int))) b t k' :=
  ⟨(set_other _ _ _ _ _ _ (Or.inr (by omega))).trans h.r0, set_same h.row (by omega) _, h.row.set _ _⟩
theorem Cr.drewN {w : World} {b : Nat} {t : ByteArray} {k : Nat} (h : Cr w b t k) (n : Nat) : Cr (w.drewN n) b t k := h.onto (below_drewN (Below.refl _ _) n)
/-- the fault at a place, panicked -/
def cFaulted (t : ByteArray) (er at_ : Nat) (e : Ending) : Prop := e = .panicked [{ v := .iface 30 (faultV t (at_ : Int) (er : Int)), recovered := false }]
set_option maxRecDepth 100000 in
set_option maxHeartbeats 2000000 in
theorem crefuse_any (b : Nat) (t : ByteArray) (k at_ er : Nat) (w : World) (h : Cr w b t k) (hs : t.size ≤ 1000000) :
    Calls Tryd.prog 36 #[.pointer (some ⟨b, 0, none⟩), .int .i64 (at_ : Int), .int .i64 (er : Int)] w fun e w' => cFaulted t er at_ e ∧ Below w.heap.size w w' := by
  have r0 := h.r0
  have CF := hid (fun X => fault_any t (at_ : Int) (er : Int) X hs)
  unfold cFaulted
  generalize faultV t (at_ : Int) (er : Int) = fv at CF ⊢
  clear h
  go_enter Tryd.func36, Tryd.ntmps36
  go_wp2_with (go_at_call 50; go_must (refine (CF.out _).mono ?_; rintro e w2 ⟨rfl, hb2⟩))
  first
  | exact ⟨rfl, hb2⟩
  | exact ⟨rfl, rfl, hb2⟩
  | (simp only [bodyPost]; exact ⟨rfl, hb2⟩)
  | (simp [bodyPost]; exact hb2)
set_option maxRecDepth 100000 in
set_option maxHeartbeats 1000000 in
theorem csees_any (b : Nat) (t p : ByteArray) (k : Nat) (w : World) (h : Cr w b t k) (hk : k ≤ t.size) :
    Calls Tryd.prog 72 #[.pointer (some ⟨b, 0, none⟩), .string p] w fun e w' => e = .returned (.bool (Lib.hasPrefix (t.data.toList.drop k) p.data.toList)) ∧ ∃ n, w' = w.drewN n := by
  have r0 := h.r0
  have r1 := h.r1
  have CP := hid (fun X => Tryd.strings_HasPrefix (t.extract k t.size) p X)
  rw [drop_list] at CP
  obtain ⟨v, hv⟩ : ∃ v, Lib.hasPrefix (t.data.toList.drop k) p.data.toList = v := ⟨_, rfl⟩
  rw [hv] at CP ⊢
  clear h hv
  go_enter Tryd.func72, Tryd.ntmps72
  go_wp2_with fail
  go_quiet ((go_at_call 80; exact (CP.out _).mono (by rintro e w5 ⟨rfl, rfl⟩; exact ⟨rfl, _, rfl⟩)))
  go_wp2_with fail
  go_ret
  exact ⟨rfl, _, rfl⟩
set_option maxRecDepth 100000 in
set_option maxHeartbeats 1000000 in
theorem cpasses_no (b : Nat) (t p : ByteArray) (k : Nat) (w : World) (h : Cr w b t k) (hk : k ≤ t.size) (hp : Lib.hasPrefix (t.data.toList.drop k) p.data.toList = false) :
    Calls Tryd.prog 53 #[.pointer (some ⟨b, 0, none⟩), .string p] w fun e w' => e = .returned (.bool false) ∧ ∃ n, w' = w.drewN n := by
  have CS := hid (csees_any b t p k w h hk)
  rw [hp] at CS
  clear h hp
  go_enter Tryd.func53, Tryd.ntmps53
  go_wp2_with fail
  go_at_call 72
  refine CS.out.mono ?_
  rintro e w1 ⟨rfl, n, rfl⟩
  go_wp2_with fail
  go_ret
  exact ⟨rfl, _, rfl⟩
set_option maxRecDepth 100000 in
set_option maxHeartbeats 1000000 in
theorem cpasses_yes (b : Nat) (t p : ByteArray) (k : Nat) (w : World) (h : Cr w b t k) (hk : k ≤ t.size) (hs : t.size ≤ 1000000) (hp2 : p.size ≤ 2) (hp : Lib.hasPrefix (t.data.toList.drop k) p.data.toList = true) :
    Calls Tryd.prog 53 #[.pointer (some ⟨b, 0, none⟩), .string p] w fun e w' => e = .returned (.bool true) ∧ Cr w' b t (k + p.size) ∧ Own b w w' := by
  have CS := hid (csees_any b t p k w h hk)
  rw [hp] at CS
  have HC := hid h
  clear h hp
  go_enter Tryd.func53, Tryd.ntmps53
  go_wp2_with fail
  go_at_call 72
  refine CS.out.mono ?_
  rintro e w1 ⟨rfl, n, hw1⟩
  have HC1 : Hid (Cr w1 b t k) := hid (by rw [hw1]; exact HC.out.drewN n)
  have HO1 : Hid (Own b w w1) := hid (by rw [hw1]; exact Own.of (below_drewN (Below.refl _ _) n))
  have r1 := HC1.out.r1
  have rf := HC1.out.row.frozen
  clear hw1 CS HC
  go_wp2_with fail
  go_ret
  exact ⟨rfl, by have := HC1.out.set1 (k + p.size); exact_mod_cast this, HO1.out.set _ _⟩
theorem hasP_one (l : List UInt8) (c : UInt8) : Lib.hasPrefix l [c] = decide (l.head? = some c) := by
  cases l with
  | nil => rfl
  | cons a l =>
    unfold Lib.hasPrefix
    rw [Bool.eq_iff_iff]
    simp
    exact eq_comm
theorem hasP_two (l : List UInt8) (c d : UInt8) : Lib.hasPrefix l [c, d] = decide (l.head? = some c ∧ l.tail.head? = some d) := by
  rcases l with _ | ⟨a, _ | ⟨e, l⟩⟩
  · rfl
  · unfold Lib.hasPrefix
    rw [Bool.eq_iff_iff]
    simp
  · unfold Lib.hasPrefix
    rw [Bool.eq_iff_iff]
    simp
    exact ⟨fun h => ⟨h.1.symm, h.2.symm⟩, fun h => ⟨h.1.symm, h.2.symm⟩⟩
theorem endB_is (l : List UInt8) : endB l = (decide (l = []) || (Lib.hasPrefix l [10] || Lib.hasPrefix l [13, 10])) := by
  rw [hasP_one, hasP_two, Bool.eq_iff_iff]
  unfold endB endN
  simp only [Bool.or_eq_true, decide_eq_true_eq]
  constructor
  · rintro (h | h)
    · exact Or.inl h
    · right
      split at h
      · next g => exact Or.inl g
      · split at h
        · next g => exact Or.inr g
        · omega
  · rintro (h | h | h)
    · exact Or.inl h
    · right; rw [if_pos h]; omega
    · right; rw [if_neg (by rw [h.1]; decide), if_pos h]; omega
set_option maxRecDepth 100000 in
set_option maxHeartbeats 1000000 in
theorem cend_of (b : Nat) (t : ByteArray) (k : Nat) (f : ByteArray → Bool) (w : World) (h : Cr w b t k) (hf : ∀ p : ByteArray, Lib.hasPrefix (t.data.toList.drop k) p.data.toList = f p) (hk : k ≤ t.size) (x y z : Bool) (hx : ((k : Int) == (t.size : Int)) = x) (hy : f ⟨#[10]⟩ = y) (hz : f ⟨#[13, 10]⟩ = z) :
    Calls Tryd.prog 54 #[.pointer (some ⟨b, 0, none⟩)] w fun e w' => e = .returned (.bool (x || (y || z))) ∧ ∃ n, w' = w.drewN n := by
  have r0 := h.r0
  have r1 := h.r1
  have C := hid (fun p n => csees_any b t p k (w.drewN n) (h.drewN n) hk)
  have C' : Hid (∀ (p : ByteArray) (n : Nat), Calls Tryd.prog 72 #[.pointer (some ⟨b, 0, none⟩), .string p] (w.drewN n) fun e w' => e = .returned (.bool (f p)) ∧ ∃ m, w' = w.drewN m) := hid (fun p n => (C.out p n).mono (by rintro e w5 ⟨rfl, m, rfl⟩; exact ⟨by rw [hf], n + m, by rw [World.drewN_drewN]⟩))
  clear h C hf
  cases x with
  | true =>
    clear hy hz
    rw [Bool.true_or]
    go_enter Tryd.func54, Tryd.ntmps54
    go_wp2_with fail
    go_quiet (fail)
    go_wp2_with fail
    go_ret
    exact ⟨rfl, _, rfl⟩
  | false =>
    cases y with
    | true =>
      clear hz
      rw [Bool.false_or, Bool.true_or]
      go_enter Tryd.func54, Tryd.ntmps54
      go_wp2_with fail
      go_quiet ((go_at_call 72; exact C'.out _ _))
      go_wp2_with fail
      go_ret
      exact ⟨rfl, _, rfl⟩
    | false =>
      cases z with
      | true =>
        rw [Bool.false_or, Bool.false_or]
        go_enter Tryd.func54, Tryd.ntmps54
        go_wp2_with fail
        go_quiet ((go_at_call 72; exact C'.out _ _))
        go_wp2_with fail
        go_ret
        exact ⟨rfl, _, rfl⟩
      | false =>
        rw [Bool.false_or, Bool.false_or]
        go_enter Tryd.func54, Tryd.ntmps54
        go_wp2_with fail
        go_quiet ((go_at_call 72; exact C'.out _ _))
        go_wp2_with fail
        go_ret
        exact ⟨rfl, _, rfl⟩
theorem cend_any (b : Nat) (t : ByteArray) (k : Nat) (w : World) (h : Cr w b t k) (hk : k ≤ t.size) :
    Calls Tryd.prog 54 #[.pointer (some ⟨b, 0, none⟩)] w fun e w' => e = .returned (.bool (endB (t.data.toList.drop k))) ∧ ∃ n, w' = w.drewN n := by
  have := cend_of b t k (fun p => Lib.hasPrefix (t.data.toList.drop k) p.data.toList) w h (fun _ => rfl) hk _ _ _ rfl rfl rfl
  rw [endB_is]
  have e : ((k : Int) == (t.size : Int)) = decide (t.data.toList.drop k = []) := by
    rw [Bool.eq_iff_iff]
    simp only [beq_iff_eq, decide_eq_true_eq, List.drop_eq_nil_iff, size_list]
    omega
  rw [e] at this
  exact this
end Go.Proofs.YtjbccmnmcjmooaaDoor
