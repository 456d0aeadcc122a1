/- The tree that awake looks at: row, walked. -/
import Derived.Test.YtadbeodeiijhdaaGreatDoorFVPlus
import Derived.Test.YtadbeodeiijhdaaGreatDoorFFlM
import Derived.Test.YtadbeodeiijhdaaGreatDoorFFlL
import Derived.Test.YtadbeodeiijhdaaGreatDoorFVBase
import Derived.Lib.Strings
/- The document's own reckoning of trees, walked: Get. -/
namespace Go.Proofs.YtadbeodeiijhdaaGreatDoor
open Go.RowKit

theorem cells_in {w w' : World} {cs : Array Value} {t : TypeId} {i b : Nat} {v : Value} (hw : w' = w.alloc (.cells cs t)) (hb : b = w.heap.size) (h : cs[i]? = some v) : w'.cell? ⟨b, i, none⟩ = some v := by
  subst hw hb
  rw [World.cell?_alloc_new]; exact h
def cRA : ByteArray := ⟨#[97]⟩
def tRL : VT := .mk 5 0 ⟨#[]⟩ [leafT 2 1 ⟨#[]⟩, leafT 2 2 ⟨#[]⟩] [] []
def tRow : VT := .mk 6 0 ⟨#[]⟩ [] [cRA] [tRL]
end Go.Proofs.YtadbeodeiijhdaaGreatDoor
/- The statements of stage 16: the value that they ask first; heads and rows held against each other. -/
namespace Go.Proofs.YtadbeodeiijhdaaGreatDoor
open Go.RowKit

def cF (l : List UInt8) : ByteArray := mkS l
def tOa : VT := leafT 2 1 ⟨#[]⟩
def tOx : VT := leafT 4 0 ⟨#[120]⟩
def tOc : VT := .mk 6 0 ⟨#[]⟩ [] [⟨#[99]⟩] [tOx]
def tOm : VT := .mk 6 0 ⟨#[]⟩ [] [⟨#[97]⟩, ⟨#[98]⟩] [tOa, tOc]
def tOne : VT := .mk 5 0 ⟨#[]⟩ [tOm] [] []
/-- a block's cells -/
def Cs (w : World) (b : Nat) (l : List Value) : Prop := ∀ i v, l[i]? = some v → w.cell? ⟨b, i, none⟩ = some v
theorem Cs.onto {w w' : World} {b : Nat} {l : List Value} (h : Cs w b l) (hb : Below w.heap.size w w') : Cs w' b l := fun i v hv => keepCell hb (h i v hv)
theorem hv_one {w : World} {p q r : Nat}
    (hp : Cs w p [.string ⟨#[99]⟩, .int .i64 4, .int .i64 0, .string ⟨#[120]⟩, .slice none 0 0, .slice none 0 0])
    (hq : Cs w q [.string ⟨#[97]⟩, .int .i64 2, .int .i64 1, .string ⟨#[]⟩, .slice none 0 0, .slice none 0 0, .string ⟨#[98]⟩, .int .i64 6, .int .i64 0, .string ⟨#[]⟩, .slice none 0 0, .slice (some ⟨p, 0, none⟩) 1 1])
    (hr : Cs w r [.int .i64 6, .int .i64 0, .string ⟨#[]⟩, .slice none 0 0, .slice (some ⟨q, 0, none⟩) 2 2]) :
    HV w tOm (.slice none 0 0) (.slice (some ⟨q, 0, none⟩) 2 2) ∧ HV w tOne (.slice (some ⟨r, 0, none⟩) 1 1) (.slice none 0 0) := by
  have hc : HV w tOc (.slice none 0 0) (.slice (some ⟨p, 0, none⟩) 1 1) := by
    refine hv_in (by decide) (by decide) (by decide) (lf_nil w 0 0).inL ⟨⟨p, 0, none⟩, fun _ => .slice none 0 0, fun _ => .slice none 0 0, ⟨_, _, rfl, by decide, by decide, fun _ => rfl⟩, rfl, fun i u hu => ?_, fun i t ht => ?_, fun i t ht => ?_⟩
    · rw [add_at]
      match i, hu with
      | 0, hu => simp at hu; subst hu; exact ⟨hp 0 _ rfl, by decide⟩
      | i + 1, hu => simp at hu
    · rw [add_at]
      match i, ht with
      | 0, ht => simp at ht; subst ht; exact ⟨hp 1 _ rfl, hp 2 _ rfl, hp 3 _ rfl, hp 4 _ rfl, hp 5 _ rfl⟩
      | i + 1, ht => simp at ht
    · match i, ht with
      | 0, ht => simp at ht; subst ht; exact hv_leaf w _ _ _ (by decide) (by decide) (by decide)
      | i + 1, ht => simp at ht
  have hm : HV w tOm (.slice none 0 0) (.slice (some ⟨q, 0, none⟩) 2 2) := by
    refine hv_in (by decide) (by decide) (by decide) (lf_nil w 0 0).inL ⟨⟨q, 0, none⟩, fun _ => .slice none 0 0, fun i => if i = 0 then .slice none 0 0 else .slice (some ⟨p, 0, none⟩) 1 1, ⟨_, _, rfl, by decide, by decide, fun _ => rfl⟩, rfl, fun i u hu => ?_, fun i t ht => ?_, fun i t ht => ?_⟩
    · rw [add_at]
      match i, hu with
      | 0, hu => simp at hu; subst hu; exact ⟨hq 0 _ rfl, by decide⟩
      | 1, hu => simp at hu; subst hu; exact ⟨hq 6 _ rfl, by decide⟩
      | i + 2, hu => simp at hu
    · rw [add_at]
      match i, ht with
      | 0, ht => simp at ht; subst ht; exact ⟨hq 1 _ rfl, hq 2 _ rfl, hq 3 _ rfl, hq 4 _ rfl, hq 5 _ rfl⟩
      | 1, ht => simp at ht; subst ht; exact ⟨hq 7 _ rfl, hq 8 _ rfl, hq 9 _ rfl, hq 10 _ rfl, hq 11 _ rfl⟩
      | i + 2, ht => simp at ht
    · match i, ht with
      | 0, ht => simp at ht; subst ht; exact hv_leaf w _ _ _ (by decide) (by decide) (by decide)
      | 1, ht => simp at ht; subst ht; exact hc
      | i + 2, ht => simp at ht
  refine ⟨hm, hv_in (by decide) (by decide) (by decide) ⟨⟨r, 0, none⟩, fun _ => .slice none 0 0, fun _ => .slice (some ⟨q, 0, none⟩) 2 2, ⟨_, _, rfl, by decide, by decide, fun _ => rfl⟩, fun i t ht => ?_, fun i t ht => ?_⟩ (mf_nil w 0 0).inM⟩
  · rw [add_at]
    match i, ht with
    | 0, ht => simp at ht; subst ht; exact ⟨hr 0 _ rfl, hr 1 _ rfl, hr 2 _ rfl, hr 3 _ rfl, hr 4 _ rfl⟩
    | i + 1, ht => simp at ht
  · match i, ht with
    | 0, ht => simp at ht; subst ht; exact hm
    | i + 1, ht => simp at ht
set_option maxRecDepth 100000 in
set_option maxHeartbeats 1000000 in
theorem fone_any (w : World) : Calls Tryz.prog 29 #[] w fun e w' => ∃ q r, e = .returned (.agg #[.int .i64 5, .int .i64 0, .string ⟨#[]⟩, .slice (some ⟨r, 0, none⟩) 1 1, .slice none 0 0]) ∧ HV w' tOne (.slice (some ⟨r, 0, none⟩) 1 1) (.slice none 0 0) ∧ Cs w' r [.int .i64 6, .int .i64 0, .string ⟨#[]⟩, .slice none 0 0, .slice (some ⟨q, 0, none⟩) 2 2] ∧ HV w' tOm (.slice none 0 0) (.slice (some ⟨q, 0, none⟩) 2 2) ∧ Below w.heap.size w w' := by
  go_enter Tryz.func29, Tryz.ntmps29
  go_wp2_with fail
  have key : ∀ (W : World), W = (((((w.alloc (.cells #[.int .i64 5, .int .i64 0, .string ⟨#[]⟩, .slice (some ⟨w.heap.size + 1 + 1 + 1 + 1, 0, none⟩) 1 1, .slice none 0 0] 26)).alloc (.cells #[.string ⟨#[99]⟩, .int .i64 4, .int .i64 0, .string ⟨#[120]⟩, .slice none 0 0, .slice none 0 0] 66)).alloc (.cells #[.string ⟨#[97]⟩, .int .i64 2, .int .i64 1, .string ⟨#[]⟩, .slice none 0 0, .slice none 0 0, .string ⟨#[98]⟩, .int .i64 6, .int .i64 0, .string ⟨#[]⟩, .slice none 0 0, .slice (some ⟨w.heap.size + 1, 0, none⟩) 1 1] 66)).alloc (.cells #[.int .i64 6, .int .i64 0, .string ⟨#[]⟩, .slice none 0 0, .slice (some ⟨w.heap.size + 1 + 1, 0, none⟩) 2 2] 26)).alloc (.cells #[.int .i64 6, .int .i64 0, .string ⟨#[]⟩, .slice none 0 0, .slice (some ⟨w.heap.size + 1 + 1, 0, none⟩) 2 2] 26)) →
      Cs W (w.heap.size + 1) [.string ⟨#[99]⟩, .int .i64 4, .int .i64 0, .string ⟨#[120]⟩, .slice none 0 0, .slice none 0 0] ∧ Cs W (w.heap.size + 1 + 1) [.string ⟨#[97]⟩, .int .i64 2, .int .i64 1, .string ⟨#[]⟩, .slice none 0 0, .slice none 0 0, .string ⟨#[98]⟩, .int .i64 6, .int .i64 0, .string ⟨#[]⟩, .slice none 0 0, .slice (some ⟨w.heap.size + 1, 0, none⟩) 1 1] ∧ Cs W (w.heap.size + 1 + 1 + 1 + 1) [.int .i64 6, .int .i64 0, .string ⟨#[]⟩, .slice none 0 0, .slice (some ⟨w.heap.size + 1 + 1, 0, none⟩) 2 2] ∧ Below w.heap.size w W := by
    intro W hW
    subst hW
    refine ⟨?_, ?_, ?_, valloc_bel (valloc_bel (valloc_bel (valloc_bel (valloc_bel (Below.refl _ _) _) _) _) _) _⟩
    · refine Cs.onto (Cs.onto (Cs.onto (fun i v h => cells_in rfl (by simp) (by simpa using h)) (valloc_bel (Below.refl _ _) _)) (valloc_bel (Below.refl _ _) _)) (valloc_bel (Below.refl _ _) _)
    · refine Cs.onto (Cs.onto (fun i v h => cells_in rfl (by simp) (by simpa using h)) (valloc_bel (Below.refl _ _) _)) (valloc_bel (Below.refl _ _) _)
    · exact fun i v h => cells_in rfl (by simp) (by simpa using h)
  obtain ⟨k1, k2, k3, k4⟩ := key _ rfl
  obtain ⟨h1, h2⟩ := hv_one k1 k2 k3
  exact bodyPost_ret (v := .agg #[.int .i64 5, .int .i64 0, .string ⟨#[]⟩, .slice (some ⟨w.heap.size + 1 + 1 + 1 + 1, 0, none⟩) 1 1, .slice none 0 0]) (by simp [results, Tryz.results29, go_sem]) rfl ⟨_, _, rfl, h2, k3, h1, k4⟩
/-- two lists of the same strings -/
theorem ftexts_same (ks : List ByteArray) (v v' : Value) (w : World) (hl : ks.length ≤ 1000000) (h : InS w ks v) (h' : InS w ks v') :
    Calls Tryz.prog 19 #[v, v'] w fun e w' => e = .returned (.bool true) ∧ ∃ n, w' = w.drewN n := by
  obtain ⟨a, ⟨o, cap, rfl, h1, h1b, h2⟩, h3⟩ := h
  obtain ⟨a', ⟨o', cap', rfl, h1', h1b', h2'⟩, h3'⟩ := h'
  have H1 := hid h3
  have H2 := hid h3'
  clear h3 h3'
  obtain ⟨n, hn⟩ : ∃ n, ks.length = n := ⟨_, rfl⟩
  have HN := hid hn
  rw [hn] at hl h1 h1' h2 h2' ⊢
  clear hn
  go_enter Tryz.func19, Tryz.ntmps19
  go_wp2_with fail
  go_loopw [5] (fun x wr => ∃ k : Nat, k ≤ n ∧ x = .int .i64 (k : Int) ∧ Hid (∃ m, wr = w.drewN m)) (fun x _ => n - (intOf x).toNat)
  case atStart => exact ⟨0, Nat.zero_le _, rfl, ⟨0, rfl⟩⟩
  case round =>
    obtain ⟨k, hk, rfl, HB⟩ := hrel
    by_cases hlt : k < n
    · obtain ⟨p, hp⟩ : ∃ p, ks[k]? = some p := ⟨_, List.getElem?_eq_getElem (by rw [HN.out]; exact hlt)⟩
      obtain rfl := h2 (by omega)
      obtain rfl := h2' (by omega)
      have c1 := (H1.out k p hp).1
      have c2 := (H2.out k p hp).1
      have hbl : Below w.heap.size w wr := by obtain ⟨m, rfl⟩ := HB.out; exact below_drewN (Below.refl _ _) m
      replace c1 := keepCell hbl c1
      replace c2 := keepCell hbl c2
      clear hp hbl
      go_wp2_with fail
      go_quiet (fail)
      go_wp2_with fail
      go_round
      case rel => exact ⟨k + 1, hlt, val_int (by omega), by obtain ⟨m, rfl⟩ := HB.out; exact ⟨_, World.drewN_drewN _ _ _⟩⟩
      case measure => simp [intOf]; omega
    · go_wp2_with fail
      go_ret
      exact ⟨rfl, HB.out⟩
theorem InS.sl {w : World} {ks : List ByteArray} {u : Value} (h : InS w ks u) : ∃ o c, u = .slice o ks.length c := by
  obtain ⟨_, ⟨o, c, rfl, -⟩, -⟩ := h
  exact ⟨o, c, rfl⟩
theorem InRs.sl {w : World} {ks : List (List ByteArray)} {u : Value} (h : InRs w ks u) : ∃ o c, u = .slice o ks.length c := by
  obtain ⟨_, ⟨o, c, rfl, -⟩, -⟩ := h
  exact ⟨o, c, rfl⟩
set_option maxRecDepth 100000 in
set_option maxHeartbeats 4000000 in
theorem frows_same (rows : List (List ByteArray)) (v v' : Value) (w : World) (hl : rows.length ≤ 1000) (hr : ∀ ks ∈ rows, ks.length ≤ 1000) (h : InRs w rows v) (h' : InRs w rows v') :
    Calls Tryz.prog 20 #[v, v'] w fun e w' => e = .returned (.bool true) ∧ Below w.heap.size w w' := by
  obtain ⟨a, ⟨o, cap, rfl, h1, h1b, h2⟩, h3⟩ := h
  obtain ⟨a', ⟨o', cap', rfl, h1', h1b', h2'⟩, h3'⟩ := h'
  have H1 := hid h3
  have H2 := hid h3'
  have HR := hid hr
  clear h3 h3' hr
  obtain ⟨n, hn⟩ : ∃ n, rows.length = n := ⟨_, rfl⟩
  have HN := hid hn
  rw [hn] at hl h1 h1' h2 h2' ⊢
  clear hn
  go_enter Tryz.func20, Tryz.ntmps20
  go_wp2_with fail
  go_loopw [5] (fun x wr => ∃ k : Nat, k ≤ n ∧ x = .int .i64 (k : Int) ∧ Hid (Below w.heap.size w wr)) (fun x _ => n - (intOf x).toNat)
  case atStart => exact ⟨0, Nat.zero_le _, rfl, Below.refl _ _⟩
  case round =>
    obtain ⟨k, hk, rfl, HB⟩ := hrel
    by_cases hlt : k < n
    · obtain ⟨ks, hp⟩ : ∃ p, rows[k]? = some p := ⟨_, List.getElem?_eq_getElem (by rw [HN.out]; exact hlt)⟩
      obtain rfl := h2 (by omega)
      obtain rfl := h2' (by omega)
      obtain ⟨u, c1, s1⟩ := H1.out k ks hp
      obtain ⟨u', c2, s2⟩ := H2.out k ks hp
      replace c1 := keepCell HB.out c1
      replace c2 := keepCell HB.out c2
      have CT := hid (fun m => ftexts_same ks u u' (wr.drewN m) (by have := HR.out ks (List.mem_of_getElem? hp); omega) (s1.onto (below_drewN HB.out m)) (s2.onto (below_drewN HB.out m)))
      obtain ⟨x1, x2, rfl⟩ := s1.sl
      obtain ⟨y1, y2, rfl⟩ := s2.sl
      have CT' : Hid (∀ m, Calls Tryz.prog 19 #[.slice x1 ks.length x2, .slice y1 ks.length y2] (wr.drewN m) fun x w' => x = .returned (.bool true) ∧ ∃ n, w' = wr.drewN n) := hid (fun m => (CT.out m).mono (by rintro e w5 ⟨rfl, q, rfl⟩; exact ⟨rfl, _, World.drewN_drewN _ _ _⟩))
      clear hp s1 s2 CT
      go_wp2_with fail
      go_quiet ((go_at_call 19; exact CT'.out _))
      go_wp2_with fail
      go_round
      case rel => exact ⟨k + 1, hlt, val_int (by omega), below_drewN HB.out _⟩
      case measure => simp [intOf]; omega
    · go_wp2_with fail
      go_ret
      exact ⟨rfl, HB.out⟩
theorem one_good : lomB tOne = true ∧ flatE tOne = 0 ∧ flatH tOne = [⟨#[97]⟩, ⟨#[98, 47, 99]⟩] ∧ flatR tOne = [[⟨#[49]⟩, ⟨#[120]⟩]] ∧ mayB 0 1 tOne = true ∧ mayB 0 1 tOm = true := by
  refine ⟨?_, ?_, ?_, ?_, ?_, ?_⟩ <;> decide +kernel
theorem one_leaves : lfT tOne [] = [([lpl 0, lky ⟨#[97]⟩], tOa), ([lpl 0, lky ⟨#[98]⟩, lky ⟨#[99]⟩], tOx)] := by
  simp [lfT, lfL, lfM, tOne, tOm, tOc, tOa, tOx, leafT]
end Go.Proofs.YtadbeodeiijhdaaGreatDoor
/- Plain mathematics: a list's maps the other way round: the same columns, the rows the other way round. -/
namespace Go.Proofs.YtadbeodeiijhdaaGreatDoor
open Go.RowKit

def revT (T : VT) : VT := .mk 5 0 ⟨#[]⟩ T.ls.reverse [] []
theorem lom_frm {T : VT} (h : mayB 0 1 T = true) (hw : wfT T) : ∀ l ∈ flatX T, ∀ e ∈ l, FrmP e.1 := fun l hl e he => by
  obtain ⟨t, ht, rfl⟩ := List.mem_map.1 hl
  obtain ⟨i, hi⟩ := List.getElem?_of_mem ht
  obtain ⟨r, -, h2, -⟩ := lf_good h hw hi e he
  exact h2
theorem flatW_len (T : VT) : (flatW T).length = T.ls.length := by unfold flatW flatX; simp
theorem flatW_row {T : VT} {r : List ByteArray} (h : r ∈ flatW T) : r.length = (flatN T).length := by
  unfold flatW at h
  obtain ⟨l, -, rfl⟩ := List.mem_map.1 h
  unfold flatN
  rw [rowM_len, List.length_map]
theorem flat_zero {T : VT} (h : flatE T = 0) : lomB T = true ∧ T.ls.length ≤ 512 ∧ (flatC T).length ≤ 64 ∧ flatL T = false := by
  unfold flatE at h
  cases hl : lomB T with
  | false => rw [if_pos hl] at h; cases h
  | true =>
    rw [if_neg (by rw [hl]; decide)] at h
    split at h
    · cases h
    · split at h
      · cases h
      · cases hL : flatL T with
        | true => rw [if_pos hL] at h; cases h
        | false => exact ⟨rfl, by omega, by omega, rfl⟩
end Go.Proofs.YtadbeodeiijhdaaGreatDoor
/- Plain mathematics of a table: each leaf's path once; a row's cells that are not empty are as many as the leaves; a head's names are paths' texts. -/
namespace Go.Proofs.YtadbeodeiijhdaaGreatDoor
open Go.RowKit

theorem nd_app {α : Type} {A B : List α} (h1 : A.Nodup) (h2 : B.Nodup) (h : ∀ a ∈ A, a ∉ B) : (A ++ B).Nodup := by
  rw [List.nodup_append]
  exact ⟨h1, h2, fun a ha b hb e => h a ha (e ▸ hb)⟩
theorem lfL_nd : ∀ (r : List VT) (i : Nat) (p : List PStep), (∀ (j : Nat) (t : VT), r[j]? = some t → ((lfT t (p ++ [lpl (i + j)])).map (·.1)).Nodup ∧ ∀ z ∈ lfT t (p ++ [lpl (i + j)]), ∃ s, z.1 = p ++ [lpl (i + j)] ++ s) → ((lfL r i p).map (·.1)).Nodup
  | [], _, _, _ => by simp [lfL]
  | a :: r, i, p, h => by
    have h0 := h 0 a rfl
    have hr : ∀ (j : Nat) (t : VT), r[j]? = some t → ((lfT t (p ++ [lpl (i + 1 + j)])).map (·.1)).Nodup ∧ ∀ z ∈ lfT t (p ++ [lpl (i + 1 + j)]), ∃ s, z.1 = p ++ [lpl (i + 1 + j)] ++ s := fun j t ht => by
      have := h (j + 1) t (by simpa using ht)
      rwa [show i + (j + 1) = i + 1 + j by omega] at this
    rw [lfL, List.map_append]
    refine nd_app h0.1 (lfL_nd r (i + 1) p hr) (fun q hq hq2 => ?_)
    obtain ⟨z, hz, rfl⟩ := List.mem_map.1 hq
    obtain ⟨z', hz', e⟩ := List.mem_map.1 hq2
    obtain ⟨j, t, h1, h2⟩ := mem_lfL r (i + 1) p z' hz'
    obtain ⟨s1, e1⟩ := h0.2 z hz
    obtain ⟨s2, e2⟩ := (hr j t h1).2 z' h2
    rw [e1, e2, List.append_assoc, List.append_assoc] at e
    have := List.append_cancel_left e
    simp only [List.cons_append, List.nil_append, List.cons.injEq] at this
    have := congrArg PStep.at_ this.1
    simp only [lpl] at this
    omega
theorem lfM_nd : ∀ (r : List VT) (K : List ByteArray) (p : List PStep), K.length = r.length → Apart K → (∀ (j : Nat) (t : VT) (c : ByteArray), r[j]? = some t → K[j]? = some c → ((lfT t (p ++ [lky c])).map (·.1)).Nodup ∧ ∀ z ∈ lfT t (p ++ [lky c]), ∃ s, z.1 = p ++ [lky c] ++ s) → ((lfM r K p).map (·.1)).Nodup
  | [], _, _, _, _, _ => by simp [lfM]
  | a :: r, [], p, hl, _, _ => by simp at hl
  | a :: r, c :: K, p, hl, ha, h => by
    have h0 := h 0 a c rfl rfl
    have hr : ∀ (j : Nat) (t : VT) (d : ByteArray), r[j]? = some t → K[j]? = some d → ((lfT t (p ++ [lky d])).map (·.1)).Nodup ∧ ∀ z ∈ lfT t (p ++ [lky d]), ∃ s, z.1 = p ++ [lky d] ++ s := fun j t d ht hd => h (j + 1) t d (by simpa using ht) (by simpa using hd)
    have ha' : Apart K := fun i j d hi hj => by
      have := ha (i + 1) (j + 1) d (by simpa using hi) (by simpa using hj)
      omega
    rw [lfM, List.map_append]
    refine nd_app h0.1 (lfM_nd r K p (by simpa using hl) ha' hr) (fun q hq hq2 => ?_)
    obtain ⟨z, hz, rfl⟩ := List.mem_map.1 hq
    obtain ⟨z', hz', e⟩ := List.mem_map.1 hq2
    obtain ⟨j, t, d, h1, hd, h2⟩ := mem_lfM r K p z' (by simpa using hl) hz'
    obtain ⟨s1, e1⟩ := h0.2 z hz
    obtain ⟨s2, e2⟩ := (hr j t d h1 hd).2 z' h2
    rw [e1, e2, List.append_assoc, List.append_assoc] at e
    have := List.append_cancel_left e
    simp only [List.cons_append, List.nil_append, List.cons.injEq] at this
    have := congrArg PStep.key this.1
    simp only [lky] at this
    subst this
    have := ha 0 (j + 1) d rfl (by simpa using hd)
    omega
theorem lf_nd : ∀ (N : Nat) {T : VT}, szT T ≤ N → plainT T = true → wfT T → szT T ≤ 1000000000 → ∀ (p : List PStep), ((lfT T p).map (·.1)).Nodup
  | 0, T, hN, _, _, _, _ => by have := szT_pos T; omega
  | N + 1, T, hN, hp, hw, hz, p => by
    have hwf := (wfT_eq T).1 hw
    rw [lfT_at]
    split
    · refine lfL_nd _ _ _ (fun j t ht => ?_)
      have hs := szT_ls T j t ht
      have hpt := plain_ls hp ht
      have hwt := (wfL_get _).1 hwf.2.1 j t ht
      refine ⟨lf_nd N (T := t) (by omega) hpt hwt (by omega) _, fun z hz => ?_⟩
      obtain ⟨r, hr⟩ := lf_get (szT t) (T := t) (Nat.le_refl _) hpt hwt (by omega) _ z.1 z.2 hz
      exact ⟨r, hr.e⟩
    · split
      · rename_i h6
        refine lfM_nd _ _ _ hwf.1 (keys_apart (node_keys hp h6.1)) (fun j t c ht hc => ?_)
        have hs := szT_vs T j t ht
        have hpt := plain_vs hp ht
        have hwt := (wfL_get _).1 hwf.2.2 j t ht
        refine ⟨lf_nd N (T := t) (by omega) hpt hwt (by omega) _, fun z hz => ?_⟩
        obtain ⟨r, hr⟩ := lf_get (szT t) (T := t) (Nat.le_refl _) hpt hwt (by omega) _ z.1 z.2 hz
        exact ⟨r, hr.e⟩
      · simp
/-- cells that are not empty -/
def cntF (R : List ByteArray) : Nat := R.countP (fun c => !c.toList.isEmpty)
theorem flat_good {T : VT} (h : mayB 0 1 T = true) (hw : wfT T) : Good3 (flatC T) := colF_good _ _ Good3.nil (fun e he => by
  obtain ⟨l, h1, h2⟩ := List.mem_flatten.1 he
  exact lom_frm h hw l h1 e h2)
theorem flat_mem {T : VT} (h : mayB 0 1 T = true) (hw : wfT T) {q : List PStep} : q ∈ flatC T ↔ ∃ e ∈ (flatX T).flatten, q = e.1 := by
  show q ∈ colF _ [] ↔ _
  rw [colF_mem _ _ _ Good3.nil (fun e he => by
    obtain ⟨l, h1, h2⟩ := List.mem_flatten.1 he
    exact lom_frm h hw l h1 e h2)]
  simp
/-- a column: its name is its path's text, less the bar -/
theorem col_name {T : VT} (hl : lomB T = true) (hw : wfT T) {p : List PStep} (hp : p ∈ flatC T) : 47 :: (nmP p).data.toList = textP p ∧ FrmP p := by
  obtain ⟨-, h, hk⟩ := lom_parts hl
  have hG := flat_good h hw
  refine ⟨?_, hG.f p hp⟩
  obtain ⟨e, he, rfl⟩ := (flat_mem h hw).1 hp
  obtain ⟨l, h1, h2⟩ := List.mem_flatten.1 he
  obtain ⟨t, ht, rfl⟩ := List.mem_map.1 h1
  obtain ⟨h6, hv⟩ := hk t ht
  have hne : e.1 ≠ [] := by
    obtain ⟨i, hi⟩ := List.getElem?_of_mem ht
    obtain ⟨-, -, h3⟩ := good_sz h
    have hpt := plain_ls h3 hi
    have hwt := (wfL_get _).1 ((wfT_eq T).1 hw).2.1 i t hi
    have hwf := (wfT_eq t).1 hwt
    have hsz := szT_ls T i t hi
    obtain ⟨g1, -, -⟩ := good_sz h
    rw [lfT_at, if_neg (by omega), if_pos ⟨h6, hv⟩] at h2
    obtain ⟨j, u, c, a1, a2, a3⟩ := mem_lfM _ _ _ _ hwf.1 h2
    have hsu := szT_vs t j u a1
    obtain ⟨r, hr⟩ := lf_get (szT u) (T := u) (Nat.le_refl _) (plain_vs hpt a1) ((wfL_get _).1 hwf.2.2 j u a1) (by omega) _ e.1 e.2 a3
    rw [hr.e]; simp
  cases hc : e.1 with
  | nil => exact absurd hc hne
  | cons s q =>
    unfold nmP
    rw [mkS_list]
    simp [textP]
end Go.Proofs.YtadbeodeiijhdaaGreatDoor
/- Plain mathematics of a table: what stands in a row at a column. -/
namespace Go.Proofs.YtadbeodeiijhdaaGreatDoor
open Go.RowKit

theorem good_ix {C : List (List PStep)} (h : Good3 C) {i j : Nat} {c : List PStep} (hi : C[i]? = some c) (hj : C[j]? = some c) : i = j := by
  obtain ⟨i1, e1⟩ := List.getElem?_eq_some_iff.1 hi
  obtain ⟨j1, e2⟩ := List.getElem?_eq_some_iff.1 hj
  rcases Nat.lt_trichotomy i j with h1 | h1 | h1
  · have := (List.pairwise_iff_getElem.1 h.s) _ _ i1 j1 h1
    rw [e1, e2, cp_refl] at this; omega
  · exact h1
  · have := (List.pairwise_iff_getElem.1 h.s) _ _ j1 i1 h1
    rw [e1, e2, cp_refl] at this; omega
theorem rowF_out : ∀ (l : List (List PStep × VT)) (C : List (List PStep)) (R : List ByteArray), Good3 C → R.length = C.length → (∀ e ∈ l, e.1 ∈ C) → ∀ (k : Nat) (c : List PStep), C[k]? = some c → (∀ e ∈ l, e.1 ≠ c) → (rowF l C R)[k]? = R[k]?
  | [], _, _, _, _, _, _, _, _, _ => rfl
  | e :: l, C, R, hC, hR, hm, k, c, hk, h => by
    show (rowF l C (R.set (posC C e.1) (cellP e.2)))[k]? = _
    rw [rowF_out l C _ hC (by rw [List.length_set]; exact hR) (fun e' he' => hm e' (by simp [he'])) k c hk (fun e' he' => h e' (by simp [he']))]
    rw [List.getElem?_set_ne (fun hp => ?_)]
    have h1 := pos_in hC (hm e (by simp))
    rw [hp, hk] at h1
    injection h1 with h1
    exact h e (by simp) h1.symm
theorem rowF_in : ∀ (l : List (List PStep × VT)) (C : List (List PStep)) (R : List ByteArray), Good3 C → R.length = C.length → (l.map (·.1)).Nodup → (∀ e ∈ l, e.1 ∈ C) → ∀ (k : Nat) (c : List PStep) (u : VT), C[k]? = some c → (c, u) ∈ l → (rowF l C R)[k]? = some (cellP u)
  | [], _, _, _, _, _, _, _, _, _, _, h => by cases h
  | e :: l, C, R, hC, hR, hn, hm, k, c, u, hk, h => by
    show (rowF l C (R.set (posC C e.1) (cellP e.2)))[k]? = _
    rw [List.map_cons, List.nodup_cons] at hn
    rcases List.mem_cons.1 h with h | h
    · subst h
      have hp : posC C c = k := good_ix hC (pos_in hC (hm (c, u) (by simp))) hk
      rw [hp]
      have hkl : k < R.length := by have := lt_of_some hk; omega
      rw [rowF_out l C _ hC (by rw [List.length_set]; exact hR) (fun e' he' => hm e' (by simp [he'])) k c hk (fun e' he' h1 => hn.1 (List.mem_map.2 ⟨e', he', h1⟩))]
      exact List.getElem?_set_self hkl
    · exact rowF_in l C _ hC (by rw [List.length_set]; exact hR) hn.2 (fun e' he' => hm e' (by simp [he'])) k c u hk h
/-- what the document writes in a row at a column -/
def cellAt (t : VT) (c : List PStep) : ByteArray := match getP t c with
  | some u => if u.ls.length + u.vs.length = 0 then cellP u else ⟨#[]⟩
  | none => ⟨#[]⟩
theorem row_at {T t : VT} (h : mayB 0 1 T = true) (hw : wfT T) {i : Nat} (hi : T.ls[i]? = some t) {k : Nat} {c : List PStep} (hk : (flatC T)[k]? = some c) : (rowM (lfT t []) (flatC T))[k]? = some (cellAt t c) := by
  obtain ⟨h1, h2, h3⟩ := good_sz h
  have hsz := szT_ls T i t hi
  have hpt := plain_ls h3 hi
  have hwt := (wfL_get _).1 ((wfT_eq T).1 hw).2.1 i t hi
  have hG := flat_good h hw
  have hm : ∀ e ∈ lfT t [], e.1 ∈ flatC T := fun e he => (flat_mem h hw).2 ⟨e, List.mem_flatten.2 ⟨_, List.mem_map.2 ⟨t, List.mem_of_getElem? hi, rfl⟩, he⟩, rfl⟩
  have hfc : ∀ s ∈ c, Frm s := hG.f c (List.mem_of_getElem? hk)
  unfold rowM
  by_cases hx : ∃ u, (c, u) ∈ lfT t []
  · obtain ⟨u, hu⟩ := hx
    rw [rowF_in _ _ _ hG (by simp) (lf_nd _ (Nat.le_refl _) hpt hwt (by omega) _) hm k c u hk hu]
    obtain ⟨r, hr⟩ := lf_get (szT t) (T := t) (Nat.le_refl _) hpt hwt (by omega) _ c u hu
    have e : c = r := by rw [hr.e]; rfl
    unfold cellAt
    rw [e, hr.g]
    simp [hr.b.1, hr.b.2]
  · rw [rowF_out _ _ _ hG (by simp) hm k c hk (fun e he h4 => hx ⟨e.2, by rw [← h4]; exact he⟩)]
    have hkl := lt_of_some hk
    rw [List.getElem?_replicate, if_pos hkl]
    unfold cellAt
    cases hg : getP t c with
    | none => rfl
    | some u =>
      simp only
      split
      · rename_i h0
        exfalso
        refine hx ⟨u, ?_⟩
        have := get_lf c (T := t) [] u hpt hwt hg ⟨List.eq_nil_of_length_eq_zero (by omega), List.eq_nil_of_length_eq_zero (by omega)⟩ hfc
        simpa using this
      · rfl
end Go.Proofs.YtadbeodeiijhdaaGreatDoor
namespace Go.Proofs.YtadbeodeiijhdaaGreatDoor
open Go.RowKit

end Go.Proofs.YtadbeodeiijhdaaGreatDoor
