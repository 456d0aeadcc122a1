import Derived.Test.YtjbccmnmcjmooaaDoorCpC
import Derived.Test.YtjbccmnmcjmooaaDoorShelf5
/- cprint.sayable and May. -/
namespace Go.Proofs.YtjbccmnmcjmooaaDoor
open Go.RowKit

/-- can a row be one of CSV by itself? -/
def sayB (m : List (List UInt8)) : Bool := decide (1 ≤ m.length) && decide (m.length ≤ 64) && m.all pStrOk
theorem pall_next {α : Type} (p : α → Bool) (l : List α) (j : Nat) (x : α) (h : l[j]? = some x) : (l.take (j + 1)).all p = ((l.take j).all p && p x) := by
  rw [List.take_add_one, h]; simp
theorem pall_no {α : Type} (p : α → Bool) (l : List α) (j : Nat) (x : α) (h : l[j]? = some x) (hp : p x = false) : l.all p = false := by
  rw [List.all_eq_false]
  exact ⟨x, List.mem_of_getElem? h, by rw [hp]; decide⟩
set_option maxRecDepth 100000 in
set_option maxHeartbeats 1000000 in
theorem psay_any (ks : List ByteArray) (v : Value) (w : World) (hg : GlobC w) (h : InS w ks v) :
    Calls Tryd.prog 18 #[v] w fun e w' => e = .returned (.bool (sayB (ks.map (·.data.toList)))) ∧ Below w.heap.size w w' := by
  obtain ⟨a, ⟨o, cap, rfl, hc1, hc2, ho⟩, hcell⟩ := h
  have hml : ∀ j (s : ByteArray), ks[j]? = some s → s.size ≤ 9223372036854775807 := fun j s h => by have := (hcell j s h).2; unfold maxLen at this; omega
  have CV := hid (fun (s : ByteArray) (hz : s.size ≤ 9223372036854775807) (X : World) (hX : Below w.heap.size w X) => Tryd.utf8_ValidString s X (by omega) (hg.on hX).tabs)
  unfold maxLen at hc2
  obtain ⟨R, hR⟩ : ∃ R, sayB (ks.map (·.data.toList)) = R := ⟨_, rfl⟩
  rw [hR]
  unfold sayB at hR
  rw [List.length_map] at hR
  by_cases h1 : ks.length < 1
  · have HR : Hid (R = false) := hid (by rw [← hR, decide_eq_false (by omega)]; rfl)
    clear hR hcell hml
    go_enter Tryd.func18, Tryd.ntmps18
    go_wp2_with fail
    go_ret
    exact ⟨by rw [HR.out]; rfl, Below.refl _ _⟩
  by_cases h64 : 64 < ks.length
  · have HR : Hid (R = false) := hid (by rw [← hR, decide_eq_false (p := ks.length ≤ 64) (by omega)]; simp)
    clear hR hcell hml
    go_enter Tryd.func18, Tryd.ntmps18
    go_wp2_with fail
    go_ret
    exact ⟨by rw [HR.out]; rfl, Below.refl _ _⟩
  rw [decide_eq_true (show 1 ≤ ks.length by omega), decide_eq_true (show ks.length ≤ 64 by omega)] at hR
  simp only [Bool.true_and] at hR
  have HR := hid hR
  obtain rfl := ho (by omega)
  have HCE := hid hcell
  have HML := hid hml
  clear hR hcell hml hg
  go_enter Tryd.func18, Tryd.ntmps18
  go_wp2_with fail
  go_loopw [15] (fun i wr => ∃ j : Nat, j ≤ ks.length ∧ i = .int .i64 j ∧ Hid (Below w.heap.size w wr) ∧ Hid (((ks.map (·.data.toList)).take j).all pStrOk = true)) (fun i _ => ks.length - (intOf i).toNat)
  case atStart => exact ⟨0, Nat.zero_le _, rfl, Below.refl _ _, rfl⟩
  case round =>
    obtain ⟨j, hj, rfl, HB, HA⟩ := hrel
    by_cases hlt : j < ks.length
    · obtain ⟨c, hc⟩ : ∃ c, ks[j]? = some c := ⟨ks[j], List.getElem?_eq_getElem hlt⟩
      have d0 := keepCell HB.out (HCE.out j c hc).1
      have hcz := HML.out j c hc
      have C1 := hid (CV.out c hcz wr HB.out)
      have hck : (ks.map (·.data.toList))[j]? = some c.data.toList := by rw [List.getElem?_map, hc]; rfl
      have HN := hid (pall_next pStrOk _ j _ hck)
      have HX := hid (fun h => pall_no pStrOk _ j _ hck h)
      have HP : Hid (pStrOk c.data.toList = (decide (c.size ≤ 4096) && Lib.validD c.data.toList)) := hid (by unfold pStrOk; rw [size_list])
      clear hc hck
      by_cases hz : 4096 < c.size
      · have HFa : Hid (R = false) := hid (by rw [← HR.out, HX.out (by rw [HP.out, decide_eq_false (by omega)]; rfl)])
        go_wp2_with fail
        go_ret
        exact ⟨by rw [HFa.out]; rfl, HB.out⟩
      obtain ⟨q, hq⟩ : ∃ q, Lib.validD c.data.toList = q := ⟨_, rfl⟩
      rw [hq] at C1 HP
      rw [decide_eq_true (show c.size ≤ 4096 by omega), Bool.true_and] at HP
      clear hq
      cases q with
      | true =>
        go_wp2_with fail
        go_at_call 30
        refine C1.out.mono ?_
        rintro e w1 ⟨rfl, hb1⟩
        have HB1 := hid (vonto HB.out hb1)
        clear hb1 C1
        go_wp2_with fail
        go_roundw
        case rel => exact ⟨j + 1, hlt, val_int (by omega), HB1.out, by rw [HN.out, HP.out, HA.out]; rfl⟩
        case measure => simp [intOf]; omega
      | false =>
        have HFa : Hid (R = false) := hid (by rw [← HR.out, HX.out HP.out])
        go_wp2_with fail
        go_at_call 30
        refine C1.out.mono ?_
        rintro e w1 ⟨rfl, hb1⟩
        have HB1 := hid (vonto HB.out hb1)
        clear hb1 C1
        go_wp2_with fail
        go_ret
        exact ⟨by rw [HFa.out]; rfl, HB1.out⟩
    · obtain rfl : j = ks.length := by omega
      have HT : Hid (R = true) := hid (by
        rw [← HR.out]
        have := HA.out
        rw [List.take_of_length_le (by simp)] at this
        exact this)
      go_wp2_with fail
      go_ret
      exact ⟨by rw [HT.out]; rfl, HB.out⟩
end Go.Proofs.YtjbccmnmcjmooaaDoor
