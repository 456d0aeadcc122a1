/- The tree that awake looks at: row, walked. -/
import Derived.Test.YtjcgkihkjjaefaaGreatDoorHVPlus
import Derived.Test.YtjcgkihkjjaefaaGreatDoorHFlM
namespace Go.Proofs.YtjcgkihkjjaefaaGreatDoor
open Go.RowKit

theorem cells_in {w w' : World} {cs : Array Value} {t : TypeId} {i b : Nat} {v : Value} (hw : w' = w.alloc (.cells cs t)) (hb : b = w.heap.size) (h : cs[i]? = some v) : w'.cell? ⟨b, i, none⟩ = some v := by
  subst hw hb
  rw [World.cell?_alloc_new]; exact h
def cRA : ByteArray := ⟨#[97]⟩
def tRL : VT := .mk 5 0 ⟨#[]⟩ [leafT 2 1 ⟨#[]⟩, leafT 2 2 ⟨#[]⟩] [] []
def tRow : VT := .mk 6 0 ⟨#[]⟩ [] [cRA] [tRL]
end Go.Proofs.YtjcgkihkjjaefaaGreatDoor
/- The statements of stage 16: the value that they ask first; heads and rows held against each other. -/
namespace Go.Proofs.YtjcgkihkjjaefaaGreatDoor
open Go.RowKit

def cF (l : List UInt8) : ByteArray := mkS l
def tOa : VT := leafT 2 1 ⟨#[]⟩
def tOx : VT := leafT 4 0 ⟨#[120]⟩
def tOc : VT := .mk 6 0 ⟨#[]⟩ [] [⟨#[99]⟩] [tOx]
def tOm : VT := .mk 6 0 ⟨#[]⟩ [] [⟨#[97]⟩, ⟨#[98]⟩] [tOa, tOc]
def tOne : VT := .mk 5 0 ⟨#[]⟩ [tOm] [] []
/-- a block's cells -/
def Cs (w : World) (b : Nat) (l : List Value) : Prop := ∀ i v, l[i]? = some v → w.cell? ⟨b, i, none⟩ = some v
theorem Cs.onto {w w' : World} {b : Nat} {l : List Value} (h : Cs w b l) (hb : Below w.heap.size w w') : Cs w' b l := fun i v hv => keepCell hb (h i v hv)
theorem hv_one {w : World} {p q r : Nat}
    (hp : Cs w p [.string ⟨#[99]⟩, .int .i64 4, .int .i64 0, .string ⟨#[120]⟩, .slice none 0 0, .slice none 0 0])
    (hq : Cs w q [.string ⟨#[97]⟩, .int .i64 2, .int .i64 1, .string ⟨#[]⟩, .slice none 0 0, .slice none 0 0, .string ⟨#[98]⟩, .int .i64 6, .int .i64 0, .string ⟨#[]⟩, .slice none 0 0, .slice (some ⟨p, 0, none⟩) 1 1])
    (hr : Cs w r [.int .i64 6, .int .i64 0, .string ⟨#[]⟩, .slice none 0 0, .slice (some ⟨q, 0, none⟩) 2 2]) :
    HV w tOm (.slice none 0 0) (.slice (some ⟨q, 0, none⟩) 2 2) ∧ HV w tOne (.slice (some ⟨r, 0, none⟩) 1 1) (.slice none 0 0) := by
  have hc : HV w tOc (.slice none 0 0) (.slice (some ⟨p, 0, none⟩) 1 1) := by
    refine hv_in (by decide) (by decide) (by decide) (lf_nil w 0 0).inL ⟨⟨p, 0, none⟩, fun _ => .slice none 0 0, fun _ => .slice none 0 0, ⟨_, _, rfl, by decide, by decide, fun _ => rfl⟩, rfl, fun i u hu => ?_, fun i t ht => ?_, fun i t ht => ?_⟩
    · rw [add_at]
      match i, hu with
      | 0, hu => simp at hu; subst hu; exact ⟨hp 0 _ rfl, by decide⟩
      | i + 1, hu => simp at hu
    · rw [add_at]
      match i, ht with
      | 0, ht => simp at ht; subst ht; exact ⟨hp 1 _ rfl, hp 2 _ rfl, hp 3 _ rfl, hp 4 _ rfl, hp 5 _ rfl⟩
      | i + 1, ht => simp at ht
    · match i, ht with
      | 0, ht => simp at ht; subst ht; exact hv_leaf w _ _ _ (by decide) (by decide) (by decide)
      | i + 1, ht => simp at ht
  have hm : HV w tOm (.slice none 0 0) (.slice (some ⟨q, 0, none⟩) 2 2) := by
    refine hv_in (by decide) (by decide) (by decide) (lf_nil w 0 0).inL ⟨⟨q, 0, none⟩, fun _ => .slice none 0 0, fun i => if i = 0 then .slice none 0 0 else .slice (some ⟨p, 0, none⟩) 1 1, ⟨_, _, rfl, by decide, by decide, fun _ => rfl⟩, rfl, fun i u hu => ?_, fun i t ht => ?_, fun i t ht => ?_⟩
    · rw [add_at]
      match i, hu with
      | 0, hu => simp at hu; subst hu; exact ⟨hq 0 _ rfl, by decide⟩
      | 1, hu => simp at hu; subst hu; exact ⟨hq 6 _ rfl, by decide⟩
      | i + 2, hu => simp at hu
    · rw [add_at]
      match i, ht with
      | 0, ht => simp at ht; subst ht; exact ⟨hq 1 _ rfl, hq 2 _ rfl, hq 3 _ rfl, hq 4 _ rfl, hq 5 _ rfl⟩
      | 1, ht => simp at ht; subst ht; exact ⟨hq 7 _ rfl, hq 8 _ rfl, hq 9 _ rfl, hq 10 _ rfl, hq 11 _ rfl⟩
      | i + 2, ht => simp at ht
    · match i, ht with
      | 0, ht => simp at ht; subst ht; exact hv_leaf w _ _ _ (by decide) (by decide) (by decide)
      | 1, ht => simp at ht; subst ht; exact hc
      | i + 2, ht => simp at ht
  refine ⟨hm, hv_in (by decide) (by decide) (by decide) ⟨⟨r, 0, none⟩, fun _ => .slice none 0 0, fun _ => .slice (some ⟨q, 0, none⟩) 2 2, ⟨_, _, rfl, by decide, by decide, fun _ => rfl⟩, fun i t ht => ?_, fun i t ht => ?_⟩ (mf_nil w 0 0).inM⟩
  · rw [add_at]
    match i, ht with
    | 0, ht => simp at ht; subst ht; exact ⟨hr 0 _ rfl, hr 1 _ rfl, hr 2 _ rfl, hr 3 _ rfl, hr 4 _ rfl⟩
    | i + 1, ht => simp at ht
  · match i, ht with
    | 0, ht => simp at ht; subst ht; exact hm
    | i + 1, ht => simp at ht
set_option maxRecDepth 100000 in
set_option maxHeartbeats 1000000 in
theorem fone_any (w : World) : Calls Tryz.prog 9 #[] w fun e w' => ∃ q r, e = .returned (.agg #[.int .i64 5, .int .i64 0, .string ⟨#[]⟩, .slice (some ⟨r, 0, none⟩) 1 1, .slice none 0 0]) ∧ HV w' tOne (.slice (some ⟨r, 0, none⟩) 1 1) (.slice none 0 0) ∧ Cs w' r [.int .i64 6, .int .i64 0, .string ⟨#[]⟩, .slice none 0 0, .slice (some ⟨q, 0, none⟩) 2 2] ∧ HV w' tOm (.slice none 0 0) (.slice (some ⟨q, 0, none⟩) 2 2) ∧ Below w.heap.size w w' := by
  go_enter Tryz.func9, Tryz.ntmps9
  go_wp2_with fail
  have key : ∀ (W : World), W = (((((w.alloc (.cells #[.int .i64 5, .int .i64 0, .string ⟨#[]⟩, .slice (some ⟨w.heap.size + 1 + 1 + 1 + 1, 0, none⟩) 1 1, .slice none 0 0] 34)).alloc (.cells #[.string ⟨#[99]⟩, .int .i64 4, .int .i64 0, .string ⟨#[120]⟩, .slice none 0 0, .slice none 0 0] 65)).alloc (.cells #[.string ⟨#[97]⟩, .int .i64 2, .int .i64 1, .string ⟨#[]⟩, .slice none 0 0, .slice none 0 0, .string ⟨#[98]⟩, .int .i64 6, .int .i64 0, .string ⟨#[]⟩, .slice none 0 0, .slice (some ⟨w.heap.size + 1, 0, none⟩) 1 1] 65)).alloc (.cells #[.int .i64 6, .int .i64 0, .string ⟨#[]⟩, .slice none 0 0, .slice (some ⟨w.heap.size + 1 + 1, 0, none⟩) 2 2] 34)).alloc (.cells #[.int .i64 6, .int .i64 0, .string ⟨#[]⟩, .slice none 0 0, .slice (some ⟨w.heap.size + 1 + 1, 0, none⟩) 2 2] 34)) →
      Cs W (w.heap.size + 1) [.string ⟨#[99]⟩, .int .i64 4, .int .i64 0, .string ⟨#[120]⟩, .slice none 0 0, .slice none 0 0] ∧ Cs W (w.heap.size + 1 + 1) [.string ⟨#[97]⟩, .int .i64 2, .int .i64 1, .string ⟨#[]⟩, .slice none 0 0, .slice none 0 0, .string ⟨#[98]⟩, .int .i64 6, .int .i64 0, .string ⟨#[]⟩, .slice none 0 0, .slice (some ⟨w.heap.size + 1, 0, none⟩) 1 1] ∧ Cs W (w.heap.size + 1 + 1 + 1 + 1) [.int .i64 6, .int .i64 0, .string ⟨#[]⟩, .slice none 0 0, .slice (some ⟨w.heap.size + 1 + 1, 0, none⟩) 2 2] ∧ Below w.heap.size w W := by
    intro W hW
    subst hW
    refine ⟨?_, ?_, ?_, valloc_bel (valloc_bel (valloc_bel (valloc_bel (valloc_bel (Below.refl _ _) _) _) _) _) _⟩
    · refine Cs.onto (Cs.onto (Cs.onto (fun i v h => cells_in rfl (by simp) (by simpa using h)) (valloc_bel (Below.refl _ _) _)) (valloc_bel (Below.refl _ _) _)) (valloc_bel (Below.refl _ _) _)
    · refine Cs.onto (Cs.onto (fun i v h => cells_in rfl (by simp) (by simpa using h)) (valloc_bel (Below.refl _ _) _)) (valloc_bel (Below.refl _ _) _)
    · exact fun i v h => cells_in rfl (by simp) (by simpa using h)
  obtain ⟨k1, k2, k3, k4⟩ := key _ rfl
  obtain ⟨h1, h2⟩ := hv_one k1 k2 k3
  exact bodyPost_ret (v := .agg #[.int .i64 5, .int .i64 0, .string ⟨#[]⟩, .slice (some ⟨w.heap.size + 1 + 1 + 1 + 1, 0, none⟩) 1 1, .slice none 0 0]) (by simp [results, Tryz.results9, go_sem]) rfl ⟨_, _, rfl, h2, k3, h1, k4⟩
/-- two lists of the same strings -/
theorem ftexts_same (ks : List ByteArray) (v v' : Value) (w : World) (hl : ks.length ≤ 1000000) (h : InS w ks v) (h' : InS w ks v') :
    Calls Tryz.prog 17 #[v, v'] w fun e w' => e = .returned (.bool true) ∧ ∃ n, w' = w.drewN n := by
  obtain ⟨a, ⟨o, cap, rfl, h1, h1b, h2⟩, h3⟩ := h
  obtain ⟨a', ⟨o', cap', rfl, h1', h1b', h2'⟩, h3'⟩ := h'
  have H1 := hid h3
  have H2 := hid h3'
  clear h3 h3'
  obtain ⟨n, hn⟩ : ∃ n, ks.length = n := ⟨_, rfl⟩
  have HN := hid hn
  rw [hn] at hl h1 h1' h2 h2' ⊢
  clear hn
  go_enter Tryz.func17, Tryz.ntmps17
  go_wp2_with fail
  go_loopw [5] (fun x wr => ∃ k : Nat, k ≤ n ∧ x = .int .i64 (k : Int) ∧ Hid (∃ m, wr = w.drewN m)) (fun x _ => n - (intOf x).toNat)
  case atStart => exact ⟨0, Nat.zero_le _, rfl, ⟨0, rfl⟩⟩
  case round =>
    obtain ⟨k, hk, rfl, HB⟩ := hrel
    by_cases hlt : k < n
    · obtain ⟨p, hp⟩ : ∃ p, ks[k]? = some p := ⟨_, List.getElem?_eq_getElem (by rw [HN.out]; exact hlt)⟩
      obtain rfl := h2 (by omega)
      obtain rfl := h2' (by omega)
      have c1 := (H1.out k p hp).1
      have c2 := (H2.out k p hp).1
      have hbl : Below w.heap.size w wr := by obtain ⟨m, rfl⟩ := HB.out; exact below_drewN (Below.refl _ _) m
      replace c1 := keepCell hbl c1
      replace c2 := keepCell hbl c2
      clear hp hbl
      go_wp2_with fail
      go_quiet (fail)
      go_wp2_with fail
      go_round
      case rel => exact ⟨k + 1, hlt, val_int (by omega), by obtain ⟨m, rfl⟩ := HB.out; exact ⟨_, World.drewN_drewN _ _ _⟩⟩
      case measure => simp [intOf]; omega
    · go_wp2_with fail
      go_ret
      exact ⟨rfl, HB.out⟩
theorem InS.sl {w : World} {ks : List ByteArray} {u : Value} (h : InS w ks u) : ∃ o c, u = .slice o ks.length c := by
  obtain ⟨_, ⟨o, c, rfl, -⟩, -⟩ := h
  exact ⟨o, c, rfl⟩
theorem InRs.sl {w : World} {ks : List (List ByteArray)} {u : Value} (h : InRs w ks u) : ∃ o c, u = .slice o ks.length c := by
  obtain ⟨_, ⟨o, c, rfl, -⟩, -⟩ := h
  exact ⟨o, c, rfl⟩
theorem one_good : lomB tOne = true ∧ flatE tOne = 0 ∧ flatH tOne = [⟨#[97]⟩, ⟨#[98, 47, 99]⟩] ∧ flatR tOne = [[⟨#[49]⟩, ⟨#[120]⟩]] ∧ mayB 0 1 tOne = true ∧ mayB 0 1 tOm = true := by
  refine ⟨?_, ?_, ?_, ?_, ?_, ?_⟩ <;> decide +kernel
theorem one_leaves : lfT tOne [] = [([lpl 0, lky ⟨#[97]⟩], tOa), ([lpl 0, lky ⟨#[98]⟩, lky ⟨#[99]⟩], tOx)] := by
  simp [lfT, lfL, lfM, tOne, tOm, tOc, tOa, tOx, leafT]
end Go.Proofs.YtjcgkihkjjaefaaGreatDoor
